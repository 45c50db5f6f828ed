import PyProof.Rows.All
import Wide.All
import OpenK.AllK
import Wide.FinOn
import Lean
import PyProof.EqAt
import PyProof.EqKinds
import PyProof.TupleCall
import PyProof.NeKinds
import PyProof.CompFree
import PyProof.EnumMake
import KE.KTryMore
import PyProof.ExcArgsOwn
import PyProof.ZipIter
import PyProof.ListRange
import KE.KIsAll
import PyProof.InstStoreFacts
import PyProof.ExcInit
import PySem.Challenge.RW_hostfields_k67_papers_changed
set_option Elab.async false
set_option linter.all false
set_option maxRecDepth 100000
/-! THE HAND LAYER, for ints, bools, texts, own classes, LISTS and tuples (index, slices, in, append, pop ..), calls, loops. Paste it whole ahead of your own text; what your proof does not reach may be deleted. -/
namespace L2
open PySem PySem.Spec PyProof.Rows

/-- a key: an int or a str -/
abbrev Key := Sum Int Str
def keyIs : Key → Value → Bool
  | .inl k, v => Value.isInt k v
  | .inr x, v => Value.isStrOf x v
def keyH (w : World) : Key → Int
  | .inl k => hashInt k
  | .inr x => hashStr w x
theorem keyIs_shape : ∀ {k : Key} {v : Value}, keyIs k v = true → (∃ i t, k = Sum.inl i ∧ v = Value.int i t) ∨ (∃ x t, k = Sum.inr x ∧ v = Value.str x t)
  | .inl i, v, h => by
    obtain ⟨t, e⟩ := Value.isInt_shape (k := i) (v := v) h
    exact .inl ⟨i, t, rfl, e⟩
  | .inr x, v, h => by
    obtain ⟨t, e⟩ := Value.isStrOf_shape (x := x) (v := v) h
    exact .inr ⟨x, t, rfl, e⟩
theorem keyIs_int (i : Int) (t : Tok) : keyIs (.inl i) (.int i t) = true := by simp [keyIs, Value.isInt]
theorem keyIs_str (x : Str) (t : Tok) : keyIs (.inr x) (.str x t) = true := by simp [keyIs, Value.isStrOf]
theorem key_ll (a b : Int) : decide ((Sum.inl a : Key) = Sum.inl b) = (a == b) := by
  by_cases e : a = b
  · subst e; simp
  · have h : ¬ (Sum.inl a : Key) = Sum.inl b := fun q => e (Sum.inl.inj q)
    rw [decide_eq_false h]
    exact (beq_eq_false_iff_ne.mpr e).symm
theorem key_rr (a b : Str) : decide ((Sum.inr a : Key) = Sum.inr b) = decide (a = b) := by
  by_cases e : a = b
  · subst e; simp
  · have h : ¬ (Sum.inr a : Key) = Sum.inr b := fun q => e (Sum.inr.inj q)
    rw [decide_eq_false h, decide_eq_false e]
theorem key_lr (a : Int) (b : Str) : decide ((Sum.inl a : Key) = Sum.inr b) = false := decide_eq_false (fun q => nomatch q)
theorem key_rl (a : Str) (b : Int) : decide ((Sum.inr a : Key) = Sum.inl b) = false := decide_eq_false (fun q => nomatch q)

def mixKind (prog : Program) (w : World) : PySem.KeyKind prog w Key where
  is := keyIs
  hash := keyH w
  inj := fun v a b ha hb => by
    rcases keyIs_shape ha with ⟨i, t, rfl, rfl⟩ | ⟨x, t, rfl, rfl⟩
    · rcases keyIs_shape hb with ⟨j, u, rfl, e⟩ | ⟨y, u, rfl, e⟩
      · injection e with e1 _; rw [e1]
      · exact nomatch e
    · rcases keyIs_shape hb with ⟨j, u, rfl, e⟩ | ⟨y, u, rfl, e⟩
      · exact nomatch e
      · injection e with e1 _; rw [e1]
  byValue := fun k v h => by
    rcases keyIs_shape h with ⟨i, t, rfl, rfl⟩ | ⟨x, t, rfl, rfl⟩ <;> rfl
  pyHash := fun hv h => by
    rcases keyIs_shape hv with ⟨i, t, rfl, rfl⟩ | ⟨x, t, rfl, rfl⟩
    · exact wpAny_pyHash_int h
    · exact wpAny_pyHash_str h
  eqBool := fun hu hv h => by
    rcases keyIs_shape hu with ⟨i, t, rfl, rfl⟩ | ⟨x, t, rfl, rfl⟩
    · rcases keyIs_shape hv with ⟨j, u, rfl, rfl⟩ | ⟨y, u, rfl, rfl⟩
      · rw [key_ll] at h; exact wpAny_eqBool_int h
      · rw [key_lr] at h; exact SeqAt.EqAt.int_str i t y u _ _ _ _ h
    · rcases keyIs_shape hv with ⟨j, u, rfl, rfl⟩ | ⟨y, u, rfl, rfl⟩
      · rw [key_rl] at h; exact SeqAt.EqAt.str_int x t j u _ _ _ _ h
      · rw [key_rr] at h; exact wpAny_eqBool_str h
  «strs» := fun k x t v h => by
    rcases keyIs_shape h with ⟨i, u, rfl, e⟩ | ⟨y, u, rfl, e⟩
    · exact nomatch e
    · injection e with e1 _
      subst e1
      cases v <;> rfl

theorem mixKind_int (prog : Program) (w : World) (i : Int) (t : Tok) : (mixKind prog w).is (.inl i) (.int i t) = true := keyIs_int i t
theorem mixKind_str (prog : Program) (w : World) (x : Str) (t : Tok) : (mixKind prog w).is (.inr x) (.str x t) = true := keyIs_str x t
end L2

namespace L2
open PySem PySem.Spec PyProof.Rows

/-- a value, without the heap -/
inductive V where
  | non | bl (b : Bool) | int (i : Int) | str (x : Str) | byt (b : Array UInt8) | flt (b : UInt64) | ref (a : Addr) | ty (n : String)
  deriving DecidableEq

def RelV : V → Value → Prop
  | .non, u => u = Value.none
  | .bl b, u => u = Value.bool b
  | .int i, u => ∃ t, u = Value.int i t
  | .str x, u => ∃ t, u = Value.str x t
  | .byt b, u => ∃ t, u = Value.bytes b t
  | .flt b, u => ∃ t, u = Value.float b t
  | .ref a, u => u = Value.ref a
  | .ty n, u => u = Value.type n

abbrev Vals : List V → List Value → Prop := Paired RelV
theorem Vals.length {xs : List V} {us : List Value} (r : Vals xs us) : xs.length = us.length := Paired.length r
theorem Vals.get : ∀ {xs : List V} {us : List Value} {i : Nat} {x : V}, Vals xs us → xs[i]? = some x → ∃ u, us[i]? = some u ∧ RelV x u
  | _, _, _, _, .nil, e => by simp at e
  | _, _, 0, _, .cons r _, e => by simp at e; subst e; exact ⟨_, rfl, r⟩
  | _, _, i + 1, x, .cons _ t, e => by
    obtain ⟨u, h1, h2⟩ := Vals.get (i := i) (x := x) t (by simpa using e)
    exact ⟨u, by simpa using h1, h2⟩
theorem Vals.set {x : V} {u : Value} (r : RelV x u) : ∀ {xs : List V} {us : List Value} (i : Nat), Vals xs us → Vals (xs.set i x) (us.set i u)
  | _, _, _, .nil => .nil
  | _, _, 0, .cons _ t => .cons r t
  | _, _, i + 1, .cons q t => .cons q (Vals.set r i t)
theorem Vals.append : ∀ {xs ys : List V} {us ws : List Value}, Vals xs us → Vals ys ws → Vals (xs ++ ys) (us ++ ws)
  | _, _, _, _, .nil, s => s
  | _, _, _, _, .cons r t, s => .cons r (Vals.append t s)
theorem Vals.take : ∀ {xs : List V} {us : List Value} (n : Nat), Vals xs us → Vals (xs.take n) (us.take n)
  | _, _, 0, _ => .nil
  | _, _, _ + 1, .nil => .nil
  | _, _, n + 1, .cons r t => .cons r (Vals.take n t)
theorem Vals.drop : ∀ {xs : List V} {us : List Value} (n : Nat), Vals xs us → Vals (xs.drop n) (us.drop n)
  | _, _, 0, r => r
  | _, _, _ + 1, .nil => .nil
  | _, _, n + 1, .cons _ t => Vals.drop n t
def RelO : Option V → Option Value → Prop
  | some v, some u => RelV v u
  | none, none => True
  | _, _ => False
def KV {κ : Type} : List (κ × V) → List (κ × Value) → Prop := Paired fun (p : κ × V) (q : κ × Value) => p.1 = q.1 ∧ RelV p.2 q.2

/-- a key of a dict (00_mix): an int or a text -/
def kV : Key → V
  | .inl i => .int i
  | .inr x => .str x

/-- what stands at a tracked address -/
inductive HO where
  /-- a list -/
  | lst (xs : List V)
  /-- a tuple (never changes) -/
  | tup (xs : List V)
  /-- a dict whose keys are ints and texts; one whose keys are tuples of ints and texts (the empty one is both) -/
  | dK (kvs : List (Key × V)) | dT (kvs : List (List Key × V))
  /-- a set of ints: its members, its size -/
  | set (S : Int → Bool) (n : Nat)
  /-- an instance of the class at C, its dict at dx, its attributes -/
  | ins (C dx : Addr) (fs : List (Str × V))
  /-- the dict of the instance at x -/
  | own (x : Addr)
  /-- the dict of an exception -/
  | xd (fs : List (Str × V))
  /-- a bound method, f of x -/
  | met (f x : Addr)
  /-- a range object lo, lo + 1, .. below hi -/
  | rng (lo hi : Int)
  /-- a thing that is known to the object (the script; a dict while a loop walks it): read, never written while it is so -/
  | frz (o : Obj) (u : HO)
  /-- a code object's table -/
  | tbl (ps : Array Value)
  /-- any other thing, by what is true of its one object (a def of one's own: SetO a S n := HO.ext fun h => ..) -/
  | ext (φ : Heap → Prop)

abbrev Hp := Addr → Option HO
def upd (H : Hp) (a : Addr) (o : HO) : Hp := fun b => if b = a then some o else H b
theorem upd_same {H : Hp} {a : Addr} {o : HO} : upd H a o a = some o := by unfold upd; rw [if_pos rfl]
theorem upd_ne {H : Hp} {a b : Addr} {o : HO} (h : b ≠ a) : upd H a o b = H b := by unfold upd; rw [if_neg h]
/-- two objects of different content stand apart -/
theorem ne_of {H : Hp} {a b : Addr} {o u : HO} (h : H a = some o) (h' : H b = some u) (d : o ≠ u) : a ≠ b := by
  intro e; subst e; rw [h] at h'; exact d (Option.some.inj h')
theorem ne_of_none {H : Hp} {a b : Addr} {o : HO} (h : H a = some o) (h' : H b = none) : a ≠ b := by
  intro e; subst e; rw [h] at h'; cases h'

section
variable (P : Program) (w : World)
def ObjOk (H : Hp) (h : Heap) (a : Addr) : HO → Prop
  | .lst xs => xs.length ≤ sizeLine ∧ ∃ (its : List Value) (n : Nat), Vals xs its ∧ h.get? a = some { cls := .type "list", data := .seq its.toArray n }
  | .tup xs => xs.length ≤ sizeLine ∧ ∃ its : List Value, Vals xs its ∧ IsTup h a its.toArray
  | .dK kvs => kvs.length ≤ sizeLine ∧ (a == sysModules) = false ∧ ∃ vs, KV kvs vs ∧ h.DictOf (mixKind P w) a vs
  | .dT kvs => kvs.length ≤ sizeLine ∧ (a == sysModules) = false ∧ ∃ xs : List (List Key × Addr × Value),
      Paired (fun (p : List Key × V) (q : List Key × Addr × Value) => p.1 = q.1 ∧ H q.2.1 = some (.tup (p.1.map kV)) ∧ RelV p.2 q.2.2) kvs xs ∧
      ∃ o es ep, h.get? a = some o ∧ o.ExactDict ∧ o.data = .dict es ep ∧ es.toList = xs.map (entryOfKey (tupleKind (mixKind P w))) ∧ (xs.map (·.1)).Nodup
  | .set S n => h.SetOf (intKind P w) a S n
  | .ins C dx fs => H dx = some (.own a) ∧ fs.length ≤ 1000 ∧ dx ≠ a ∧ h.get? a = some (PySem.W.instObj C dx) ∧
      ∃ mA, h.Ns1 dx mA ∧ (∀ f, RelO (fs.lookup f) (mA f)) ∧ PySem.Within mA (fs.map (·.1))
  | .own _ => ∃ o, h.get? a = some o
  | .xd fs => ∃ mA, h.Ns1 a mA ∧ ∀ f, RelO (fs.lookup f) (mA f)
  | .rng lo hi => ∃ t u v, h.get? a = some { cls := .type "range", data := .fields #[.int lo t, .int hi u, .int 1 v] }
  | .frz o u => h.get? a = some o ∧ ObjOk H h a u
  | .tbl ps => h.get? a = some { cls := .none, data := .fields ps }
  | .met f x => h.get? a = some (PySem.W.methodObj (.ref f) (.ref x))
  | .ext φ => φ h ∧ (∃ o, h.get? a = some o) ∧ ∀ h1 h2 : Heap, φ h1 → (∀ o, h1.get? a = some o → h2.get? a = some o) → φ h2
/-- the abstract heap is held -/
def HOk (H : Hp) (h : Heap) : Prop := ∀ a o, H a = some o → ObjOk P w H h a o
end

section
variable {P : Program} {w : World} {H H' : Hp} {h h' : Heap} {a : Addr} {o : HO}
theorem ObjOk.lt (x : ObjOk P w H h a o) : a < h.objs.size := by
  cases o with
  | lst xs => obtain ⟨_, _, _, _, e⟩ := x; exact Heap.lt_size e
  | tup xs => obtain ⟨_, _, _, p⟩ := x; exact p.lt
  | dK kvs => obtain ⟨_, _, _, _, o, _, _, e, _⟩ := x; exact Heap.lt_size e
  | dT kvs => obtain ⟨_, _, _, _, o, _, _, e, _⟩ := x; exact Heap.lt_size e
  | set S n => obtain ⟨o, _, _, _, e, _⟩ := x; exact Heap.lt_size e
  | ins C dx fs => obtain ⟨_, _, _, e, _⟩ := x; exact Heap.lt_size e
  | own y => obtain ⟨_, e⟩ := x; exact Heap.lt_size e
  | xd fs => obtain ⟨_, ⟨_, _, _, e, _⟩, _⟩ := x; exact Heap.lt_size e
  | rng lo hi => obtain ⟨_, _, _, e⟩ := x; exact Heap.lt_size e
  | frz ob u => obtain ⟨e, _⟩ := x; exact Heap.lt_size e
  | tbl ps => exact Heap.lt_size (show h.get? a = some _ from x)
  | met f y => exact Heap.lt_size (show h.get? a = some _ from x)
  | ext φ => obtain ⟨_, ⟨_, e⟩, _⟩ := x; exact Heap.lt_size e
theorem Paired.mapP {α β : Type} {F G : α → β → Prop} : ∀ {l₁ : List α} {l₂ : List β}, Paired F l₁ l₂ → (∀ a b, F a b → G a b) → Paired G l₁ l₂
  | _, _, .nil, _ => .nil
  | _, _, .cons r t, f => .cons (f _ _ r) (Paired.mapP t f)
/-- what an object's description leans on: its own object, its own dict, the tuples -/
theorem ObjOk.stay (x : ObjOk P w H h a o) (k : ∀ b u, (b = a ∨ H b = some (.own a)) → h.get? b = some u → h'.get? b = some u)
    (ho : ∀ b, H b = some (.own a) → H' b = some (.own a)) (ht : ∀ b xs, H b = some (.tup xs) → H' b = some (.tup xs)) : ObjOk P w H' h' a o := by
  induction o with
  | lst xs => obtain ⟨z, its, n, r, e⟩ := x; exact ⟨z, its, n, r, k _ _ (.inl rfl) e⟩
  | tup xs => obtain ⟨z, its, r, ob, e, c⟩ := x; exact ⟨z, its, r, ob, k _ _ (.inl rfl) e, c⟩
  | dK kvs => obtain ⟨z, y, vs, r, ob, es, ep, e, c⟩ := x; exact ⟨z, y, vs, r, ob, es, ep, k _ _ (.inl rfl) e, c⟩
  | dT kvs =>
    obtain ⟨z, y, xs, r, ob, es, ep, e, c⟩ := x
    exact ⟨z, y, xs, Paired.mapP r fun p q z => ⟨z.1, ht _ _ z.2.1, z.2.2⟩, ob, es, ep, k _ _ (.inl rfl) e, c⟩
  | set S n => obtain ⟨ob, es, ep, t, e, c⟩ := x; exact ⟨ob, es, ep, t, k _ _ (.inl rfl) e, c⟩
  | ins C dx fs =>
    obtain ⟨d, z, ne, e, mA, ⟨od, es, ep, e2, c⟩, r⟩ := x
    exact ⟨ho _ d, z, ne, k _ _ (.inl rfl) e, mA, ⟨od, es, ep, k _ _ (.inr d) e2, c⟩, r⟩
  | own y => obtain ⟨ob, e⟩ := x; exact ⟨ob, k _ _ (.inl rfl) e⟩
  | xd fs => obtain ⟨mA, ⟨od, es, ep, e, c⟩, r⟩ := x; exact ⟨mA, ⟨od, es, ep, k _ _ (.inl rfl) e, c⟩, r⟩
  | rng lo hi => obtain ⟨t, u, v, e⟩ := x; exact ⟨t, u, v, k _ _ (.inl rfl) e⟩
  | frz ob u ih => obtain ⟨e, q⟩ := x; exact ⟨k _ _ (.inl rfl) e, ih q⟩
  | tbl ps =>
    have e : h.get? a = some { cls := .none, data := .fields ps } := x
    show h'.get? a = some { cls := .none, data := .fields ps }
    exact k a _ (.inl rfl) e
  | met f y =>
    have e : h.get? a = some (PySem.W.methodObj (.ref f) (.ref y)) := x
    show h'.get? a = some (PySem.W.methodObj (.ref f) (.ref y))
    exact k a _ (.inl rfl) e
  | ext φ => obtain ⟨p, ⟨o, e⟩, st⟩ := x; exact ⟨st _ _ p fun o q => k _ _ (.inl rfl) q, ⟨o, k _ _ (.inl rfl) e⟩, st⟩
theorem HOk.lt (x : HOk P w H h) (e : H a = some o) : a < h.objs.size := (x a o e).lt
theorem HOk.fresh (x : HOk P w H h) (e : h.objs.size ≤ a) : H a = none := by
  cases q : H a with
  | none => rfl
  | some u => exact absurd (Nat.lt_of_lt_of_le (x.lt q) e) (Nat.lt_irrefl _)
/-- every object of the heap is kept -/
theorem HOk.kept (x : HOk P w H h) (k : ∀ b u, h.get? b = some u → h'.get? b = some u) : HOk P w H h' := fun a o e =>
  (x a o e).stay (fun b u _ q => k b u q) (fun _ q => q) fun _ _ q => q
/-- a new object is laid and tracked -/
theorem HOk.laid (x : HOk P w H h) (k : ∀ b u, h.get? b = some u → h'.get? b = some u) (hp : h.objs.size ≤ a) (new : ObjOk P w (upd H a o) h' a o) : HOk P w (upd H a o) h' := fun b u e => by
  have hn := x.fresh hp
  by_cases hb : b = a
  · subst hb; rw [upd_same] at e; cases e; exact new
  · rw [upd_ne hb] at e
    exact (x b u e).stay (fun c v _ q => k c v q) (fun c q => by rw [upd_ne (ne_of_none q hn)]; exact q) fun c xs q => by rw [upd_ne (ne_of_none q hn)]; exact q
end

/-- what may be read as u: it is u, or a known u -/
def Rd (H : Hp) (a : Addr) (u : HO) : Prop := H a = some u ∨ ∃ o, H a = some (.frz o u)
theorem Rd.of {H : Hp} {a : Addr} {u : HO} (h : H a = some u) : Rd H a u := .inl h
theorem Rd.ok {P : Program} {w : World} {H : Hp} {h : Heap} {a : Addr} {u : HO} (r : Rd H a u) (x : HOk P w H h) : ObjOk P w H h a u := by
  rcases r with r | ⟨o, r⟩
  · exact x a u r
  · obtain ⟨_, q⟩ := x a _ r
    exact q
/-- what may be written -/
def Mut : Option HO → Prop
  | some (.lst _) => True
  | some (.dK _) => True
  | some (.dT _) => True
  | some (.set _ _) => True
  | some (.ins _ _ _) => True
  | some (.ext _) => True
  | _ => False
section
variable {P : Program} {w : World} {H : Hp} {h h' : Heap} {x e : Addr} {o' : HO}
/-- the object at e is changed: x itself, or the dict of the instance x -/
theorem HOk.write (ok : HOk P w H h) (mu : Mut (H x)) (he : e = x ∨ H e = some (.own x)) (k : ∀ b u, b ≠ e → h.get? b = some u → h'.get? b = some u) (heo : ∃ u, h'.get? e = some u)
    (new : ObjOk P w (upd H x o') h' x o') : HOk P w (upd H x o') h' := fun b u q => by
  have nown : ∀ c y, H c = some (.own y) → c ≠ x := fun c y r z => by subst z; rw [r] at mu; exact mu
  have ntup : ∀ c xs, H c = some (.tup xs) → c ≠ x := fun c xs r z => by subst z; rw [r] at mu; exact mu
  by_cases hb : b = x
  · subst hb; rw [upd_same] at q; cases q; exact new
  · rw [upd_ne hb] at q
    by_cases hbe : b = e
    · have q' : H b = some (.own x) := by
        rcases he with z | z
        · exact absurd (hbe.trans z) hb
        · rw [hbe]; exact z
      rw [q] at q'; cases q'
      obtain ⟨v, hv⟩ := heo
      exact ⟨v, by rw [hbe]; exact hv⟩
    · refine (ok b u q).stay (fun c v hc r => k c v ?_ r) (fun c r => by rw [upd_ne (nown c b r)]; exact r) fun c xs r => by rw [upd_ne (ntup c xs r)]; exact r
      rcases hc with rfl | hc
      · exact hbe
      · rintro rfl
        rcases he with z | z
        · exact nown c b hc z
        · rw [hc] at z; cases z; exact hb rfl
end

/-! ### kept unless tracked; of the frames at fs (the callers') the slots may change (an exception that passes writes there); of the records at ex (iterators) nothing is said -/
structure Un (fs ex : List Addr) (H H' : Hp) (h h' : Heap) : Prop where
  keep : ∀ b o, h.get? b = some o → H b = none → b ∉ fs → b ∉ ex → h'.get? b = some o
  slot : ∀ b o, h.get? b = some o → H b = none → b ∈ fs → b ∉ ex → ∃ sl, h'.get? b = some { o with slots := sl }
  free : ∀ b o, h.get? b = some o → H b = none → b ∉ ex → H' b = none
  there : ∀ b o, h.get? b = some o → b ∉ ex → ∃ o', h'.get? b = some o'
  tups : ∀ b xs, H b = some (.tup xs) → H' b = some (.tup xs)
  frzs : ∀ b o u, H b = some (.frz o u) → H' b = some (.frz o u)
  tbls : ∀ b ps, H b = some (.tbl ps) → ∃ more, H' b = some (.tbl (ps ++ more))
section
variable {fs fs' ex ex' : List Addr} {H H1 H2 : Hp} {h h1 h2 h' : Heap} {a x e : Addr} {o : HO}
theorem Un.any (u : Un fs ex H H1 h h1) {b : Addr} {ob : Obj} (q : h.get? b = some ob) (n : H b = none) (hx : b ∉ ex) : ∃ sl, h1.get? b = some { ob with slots := sl } := by
  by_cases hb : b ∈ fs
  · exact u.slot b ob q n hb hx
  · exact ⟨ob.slots, u.keep b ob q n hb hx⟩
theorem Un.trans (a : Un fs ex H H1 h h1) (b : Un fs ex H1 H2 h1 h2) : Un fs ex H H2 h h2 where
  keep := fun c ob q n hc hx => b.keep c ob (a.keep c ob q n hc hx) (a.free c ob q n hx) hc hx
  slot := fun c ob q n hc hx => by
    obtain ⟨sl, e1⟩ := a.slot c ob q n hc hx
    obtain ⟨sl', e2⟩ := b.slot c _ e1 (a.free c ob q n hx) hc hx
    exact ⟨sl', e2⟩
  free := fun c ob q n hx => by
    obtain ⟨o', e1⟩ := a.there c ob q hx
    exact b.free c o' e1 (a.free c ob q n hx) hx
  there := fun c ob q hx => by
    obtain ⟨o', e1⟩ := a.there c ob q hx
    exact b.there c o' e1 hx
  tups := fun c xs q => b.tups c xs (a.tups c xs q)
  frzs := fun c ob xs q => b.frzs c ob xs (a.frzs c ob xs q)
  tbls := fun c ps q => by
    obtain ⟨m1, e1⟩ := a.tbls c ps q
    obtain ⟨m2, e2⟩ := b.tbls c _ e1
    exact ⟨m1 ++ m2, by rw [e2, Array.append_assoc]⟩
theorem Un.kept (k : ∀ b u, h.get? b = some u → h'.get? b = some u) : Un fs ex H H h h' :=
  ⟨fun b ob q _ _ _ => k b ob q, fun b ob q _ _ _ => ⟨ob.slots, k b ob q⟩, fun _ _ _ n _ => n, fun b ob q _ => ⟨ob, k b ob q⟩, fun _ _ q => q, fun _ _ _ q => q, fun _ ps q => ⟨#[], by rw [q]; simp⟩⟩
theorem Un.refl : Un fs ex H H h h := Un.kept fun _ _ q => q
theorem Un.laid (k : ∀ b u, h.get? b = some u → h'.get? b = some u) (hp : h.objs.size ≤ a) (hn : H a = none) : Un fs ex H (upd H a o) h h' where
  keep := fun b u q _ _ _ => k b u q
  slot := fun b u q _ _ _ => ⟨u.slots, k b u q⟩
  free := fun b u q n _ => by rw [upd_ne (Nat.ne_of_lt (Nat.lt_of_lt_of_le (Heap.lt_size q) hp))]; exact n
  there := fun b u q _ => ⟨u, k b u q⟩
  tups := fun b xs q => by rw [upd_ne (ne_of_none q hn)]; exact q
  frzs := fun b u xs q => by rw [upd_ne (ne_of_none q hn)]; exact q
  tbls := fun b ps q => ⟨#[], by rw [upd_ne (ne_of_none q hn), q]; simp⟩
theorem Un.write (mu : Mut (H x)) (he : e = x ∨ H e = some (.own x)) (k : ∀ b u, b ≠ e → h.get? b = some u → h'.get? b = some u) (heo : ∃ u, h'.get? e = some u) : Un fs ex H (upd H x o) h h' := by
  have hx : ∀ b, H b = none → b ≠ x := fun b n z => by subst z; rw [n] at mu; exact mu
  have hb : ∀ b, H b = none → b ≠ e := fun b n z => by
    subst z
    rcases he with r | r
    · exact hx b n r
    · rw [n] at r; cases r
  have hm : ∀ b u, H b = some u → ¬ Mut (some u) → b ≠ x := fun b u q nm z => by subst z; rw [q] at mu; exact nm mu
  refine ⟨fun b u q n _ _ => k b u (hb b n) q, fun b u q n _ _ => ⟨u.slots, k b u (hb b n) q⟩, fun b u q n _ => by rw [upd_ne (hx b n)]; exact n, fun b u q _ => ?_,
    fun b xs q => by rw [upd_ne (hm b _ q fun z => z)]; exact q, fun b u xs q => by rw [upd_ne (hm b _ q fun z => z)]; exact q, fun b ps q => ⟨#[], by rw [upd_ne (hm b _ q fun z => z), q]; simp⟩⟩
  by_cases hbe : b = e
  · subst hbe; exact heo
  · exact ⟨u, k b u hbe q⟩
end

/-! ### the heap without what is tracked -/
def trk (h : Heap) (H : Hp) : List Addr := (List.range h.objs.size).filter fun a => (H a).isSome
def hidT (h : Heap) (H : Hp) : Heap := PySem.W.hideAll h (trk h H)
theorem hidT_size (h : Heap) (H : Hp) : (hidT h H).objs.size = h.objs.size := PySem.W.hideAll_size _ _
theorem hidT_get {h : Heap} {H : Hp} {b : Addr} {o : Obj} (e : h.get? b = some o) (n : H b = none) : (hidT h H).get? b = some o :=
  PySem.W.hideAll_get _ e fun hm => by
    have q : (H b).isSome = true := (List.mem_filter.mp hm).2
    rw [n] at q; simp at q
theorem of_hidT {h : Heap} {H : Hp} {b : Addr} {o : Obj} (e : (hidT h H).get? b = some o) : h.get? b = some o ∧ H b = none := by
  have e' : h.get? b = some o := PySem.W.of_hideAll (trk h H) e
  refine ⟨e', ?_⟩
  cases q : H b with
  | none => rfl
  | some x =>
    have hm : b ∈ trk h H := List.mem_filter.mpr ⟨List.mem_range.mpr (Heap.lt_size e'), by simp [q]⟩
    have z : (hidT h H).get? b = none := PySem.W.hideAll_none (trk h H) hm
    rw [z] at e; cases e

/-! ### OpenK's ledger, filled with every new object but one -/
def allNews (g h : Heap) (L : Addr) : List (Addr × Obj) := (List.range h.objs.size).filterMap fun a => if a = L ∨ (g.get? a).isSome = true then none else (h.get? a).map fun o => (a, o)
def rest (g h : Heap) (L d : Addr) : List (Addr × Obj) := (allNews g h L).filter fun p => decide (p.1 ≠ d)
end L2

namespace L2
open PySem PySem.Spec PyProof.Rows

/-- the module's facts, over the base: the heap at the law's entry without what is tracked there -/
structure Mod (K : PySem.W.Frag) (mg : Str → Option Value) (base : Heap) : Prop where
  kin : K.In base
  glob : base.Ns mainGlobals mg
  blt : ∃ mb, base.Ns builtinsNs mb ∧ ∀ x : Str, x ≠ "__name__" → mb x = bootBuiltins x
  nolimit : base.NoLimit

/-- the context: a def's body (or a comprehension's block) running. base: fixed through the whole law; s₀, H₀: the entry; outer: the frames whose slots others may change (a def's callers); stack: all frames that run;
   ex: iterators that were made ahead of the entry and are walked here (a comprehension's); fn: the names whose cells were made at the entry (a def: all; a comprehension's block: its own); calm: not within an except suite; pn: pins that every state bears; xe: what is wanted of an exception that leaves the code -/
structure Cx where
  prog : Program
  w : World
  K : PySem.W.Frag
  mg : Str → Option Value
  base : Heap
  A : Around
  N : List Str
  s₀ : Shared
  H₀ : Hp
  env : Env
  outer : List Env
  stack : List Env
  ex : List Addr
  fn : Str → Bool
  calm : Bool
  pn : List (Addr × Obj)
  xe : Value → Shared → Prop
/-- the callers' frames -/
def frs (l : List Env) : List Addr := l.filterMap (·.frame)
abbrev Cx.fs (X : Cx) : List Addr := frs X.outer

def Vis (sc : Scope) (x : Str) : Prop := sc.names.lookup x = some .local ∨ sc.names.lookup x = some .cell ∨ sc.names.lookup x = some .free
def Loc (sc : Scope) (x : Str) : Prop := sc.names.lookup x = some .local ∨ sc.names.lookup x = some .cell
def Look (env : Env) (h : Heap) (m : Str → Option Value) (x : Str) (u : Value) : Prop :=
  (env.kindOf x = some .local ∧ m x = some u) ∨ ((env.kindOf x = some .cell ∨ env.kindOf x = some .free) ∧ ∃ c, env.cells.lookup x = some c ∧ h.IsCell c (some u))

structure Cx.Ok (X : Cx) : Prop where
  mod : Mod X.K X.mg X.base
  kind : X.env.scope.kind = .function
  glob : X.env.globals = mainGlobals
  blt : X.env.builtins = builtinsNs
  above : X.s₀.heap.objs.size ≤ X.env.locals
  inj : ∀ x y c, X.env.cells.lookup x = some c → X.env.cells.lookup y = some c → x = y
  has : ∀ x, (X.env.kindOf x = some .cell ∨ X.env.kindOf x = some .free) → ∃ c, X.env.cells.lookup x = some c
  cab : ∀ x c, X.fn x = true → X.env.cells.lookup x = some c → X.s₀.heap.objs.size ≤ c
  hd : X.calm = true → X.A.handled = none
  frames : X.A.frames = some X.stack
  stk : X.stack = X.outer ∨ (X.stack = X.env :: X.outer ∧ X.env.frame = some X.env.locals)
  exf : ∀ b ∈ X.ex, b ≠ X.env.locals ∧ ∀ x c, X.env.cells.lookup x = some c → c ≠ b
  bs : ∀ b o, X.base.get? b = some o → X.s₀.heap.get? b = some o ∧ X.H₀ b = none
  bsz : X.base.objs.size ≤ X.s₀.heap.objs.size
  noex : ∀ b o, X.base.get? b = some o → b ∉ X.ex
  exfs : ∀ b ∈ X.ex, b ∉ X.fs
  funs : X.s₀.heap.FunFrames X.base X.outer
  frf : ∀ b ∈ X.fs, X.H₀ b = none

structure Inv (X : Cx) (pins : List (Addr × Obj)) (σ : List (Option V)) (H : Hp) (s : Shared) : Prop where
  ok : X.Ok
  os : s.os = X.s₀.os
  bare : AllBare s.gens
  base : Un X.fs X.ex X.H₀ H X.s₀.heap s.heap
  loc : ∃ m, s.heap.Ns X.env.locals m ∧ ∀ (i : Nat) (x : Str) (v : V), X.N[i]? = some x → σ[i]? = some (some v) → Vis X.env.scope x → ∃ u, RelV v u ∧ Look X.env s.heap m x u
  cell : ∀ x c, X.env.cells.lookup x = some c → ∃ v, s.heap.IsCell c v
  free : H X.env.locals = none
  freeC : ∀ x c, X.env.cells.lookup x = some c → H c = none
  pin : ∀ p ∈ X.pn ++ pins, s.heap.get? p.1 = some p.2 ∧ H p.1 = none ∧ p.1 ≠ X.env.locals ∧ p.1 ∉ X.fs ∧ ∀ v, p.2.data ≠ .cell v
  hok : HOk X.prog X.w H s.heap
  len : σ.length = X.N.length

section
variable {X : Cx} {pins : List (Addr × Obj)} {σ : List (Option V)} {H H' : Hp} {s : Shared} {h' : Heap}

theorem Cx.Ok.nofr (ok : X.Ok) {b : Addr} {o : Obj} (e : X.base.get? b = some o) : b ∉ X.fs := fun hb => by
  have := (ok.funs.mem hb).1
  rw [e] at this; cases this
theorem Inv.bs (I : Inv X pins σ H s) : ∀ b o, X.base.get? b = some o → s.heap.get? b = some o ∧ H b = none := fun b o e =>
  ⟨I.base.keep b o (I.ok.bs b o e).1 (I.ok.bs b o e).2 (I.ok.nofr e) (I.ok.noex b o e), I.base.free b o (I.ok.bs b o e).1 (I.ok.bs b o e).2 (I.ok.noex b o e)⟩
theorem Inv.bk (I : Inv X pins σ H s) : ∀ b o, X.base.get? b = some o → s.heap.get? b = some o := fun b o e => (I.bs b o e).1
theorem Inv.mod (I : Inv X pins σ H s) : Mod X.K X.mg X.base := I.ok.mod
theorem Inv.kIn (I : Inv X pins σ H s) : X.K.In s.heap := I.ok.mod.kin.keeps I.bk
theorem Inv.lt (I : Inv X pins σ H s) : X.env.locals < s.heap.objs.size := let ⟨_, hn, _⟩ := I.loc; hn.lt
theorem Inv.sz (I : Inv X pins σ H s) : X.s₀.heap.objs.size ≤ s.heap.objs.size := Nat.le_trans I.ok.above (Nat.le_of_lt I.lt)
theorem Inv.nofs (I : Inv X pins σ H s) {a : Addr} (h : s.heap.objs.size ≤ a) : a ∉ X.fs := fun hb => by
  obtain ⟨_, o, ho, _⟩ := I.ok.funs.mem hb
  exact absurd (Nat.lt_of_lt_of_le (Heap.lt_size ho) (Nat.le_trans I.sz h)) (Nat.lt_irrefl _)
theorem Inv.cne (I : Inv X pins σ H s) : ∀ x c, X.env.cells.lookup x = some c → c ≠ X.env.locals := fun x c e z => by
  obtain ⟨v, o, ho, hd⟩ := I.cell x c e
  obtain ⟨m, ⟨o', es, ep, ho', hd', _⟩, _⟩ := I.loc
  rw [z, ho'] at ho; cases ho; rw [hd'] at hd; cases hd
theorem Inv.funs (I : Inv X pins σ H s) : s.heap.FunFrames X.base X.outer := by
  have all : ∀ (l : List Env), (∀ b ∈ frs l, b ∈ X.fs) → X.s₀.heap.FunFrames X.base l → s.heap.FunFrames X.base l := by
    intro l
    induction l with
    | nil => intro _ _; trivial
    | cons env r ih =>
      intro hs hl
      obtain ⟨hk, ⟨L, o, hf, hn, ho, hd⟩, hr⟩ := hl
      have hL : L ∈ X.fs := hs L (by unfold frs; rw [List.filterMap_cons, hf]; exact List.mem_cons_self)
      obtain ⟨sl, e⟩ := I.base.slot L o ho (I.ok.frf L hL) hL fun z => I.ok.exfs L z hL
      exact ⟨hk, ⟨L, _, hf, hn, e, hd⟩, ih (fun b hb => hs b (by unfold frs; rw [List.filterMap_cons, hf]; exact List.mem_cons_of_mem _ hb)) hr⟩
  exact all X.outer (fun _ hb => hb) I.ok.funs

/-- the frames that run, for a call -/
theorem Inv.stack (I : Inv X pins σ H s) : s.heap.FunFrames X.base X.stack := by
  rcases I.ok.stk with e | ⟨e, hf⟩
  · rw [e]; exact I.funs
  · rw [e]
    obtain ⟨m, hn, _⟩ := I.loc
    refine .cons (by rw [I.ok.kind]; decide) hf hn ?_ I.funs
    exact Heap.get?_none_of_le (Nat.le_trans I.ok.bsz I.ok.above)
theorem Inv.stkSub (I : Inv X pins σ H s) : ∀ b ∈ frs X.stack, b ∈ X.env.locals :: X.fs := fun b hb => by
  rcases I.ok.stk with e | ⟨e, hf⟩
  · rw [e] at hb; exact List.mem_cons_of_mem _ hb
  · rw [e] at hb
    unfold frs at hb
    rw [List.filterMap_cons, hf] at hb
    exact hb
theorem Inv.stkFree (I : Inv X pins σ H s) : ∀ b ∈ frs X.stack, H b = none := fun b hb => by
  rcases List.mem_cons.mp (I.stkSub b hb) with e | hb
  · rw [e]; exact I.free
  · obtain ⟨_, o, ho, _⟩ := I.ok.funs.mem hb
    exact I.base.free b o ho (I.ok.frf b hb) fun z => I.ok.exfs b z hb

/-- THE STEP: the untracked objects but the frame and the records at ch are kept (the callers' frames up to slots), the frame's map is kept, the new abstract heap is held -/
theorem Inv.step {g' : Array GenState} {t' : Nat} {d' : Drawn} {ch : List Addr} (I : Inv X pins σ H s)
    (hch : ∀ b ∈ ch, (b ∈ X.ex ∨ X.s₀.heap.objs.size ≤ b) ∧ b ≠ X.env.locals ∧ (∀ x c, X.env.cells.lookup x = some c → c ≠ b) ∧ ∀ p ∈ X.pn ++ pins, p.1 ≠ b)
    (keep : ∀ b o, b ≠ X.env.locals → b ∉ X.fs → b ∉ ch → s.heap.get? b = some o → H b = none → h'.get? b = some o)
    (slot : ∀ b o, b ≠ X.env.locals → b ∈ X.fs → b ∉ ch → s.heap.get? b = some o → H b = none → ∃ sl, h'.get? b = some { o with slots := sl }) (free : ∀ b o, b ∉ ch → s.heap.get? b = some o → H b = none → H' b = none)
    (there : ∀ b o, b ∉ ch → s.heap.get? b = some o → ∃ o', h'.get? b = some o')
    (tups : ∀ b xs, H b = some (.tup xs) → H' b = some (.tup xs)) (frzs : ∀ b o u, H b = some (.frz o u) → H' b = some (.frz o u)) (tbls : ∀ b ps, H b = some (.tbl ps) → ∃ more, H' b = some (.tbl (ps ++ more)))
    (ns : ∀ m, s.heap.Ns X.env.locals m → h'.Ns X.env.locals m) (hok : HOk X.prog X.w H' h') (hg : AllBare g') :
    Inv X pins σ H' { s with heap := h', gens := g', drawn := d', toks := t' } := by
  have neL : ∀ b o, X.s₀.heap.get? b = some o → b ≠ X.env.locals := fun b o e => Nat.ne_of_lt (Nat.lt_of_lt_of_le (Heap.lt_size e) I.ok.above)
  have neC : ∀ b o, X.s₀.heap.get? b = some o → b ∉ X.ex → b ∉ ch := fun b o e hx hb => by
    rcases (hch b hb).1 with z | z
    · exact hx z
    · exact absurd (Nat.lt_of_lt_of_le (Heap.lt_size e) z) (Nat.lt_irrefl _)
  have cellK : ∀ x c, X.env.cells.lookup x = some c → ∀ v, s.heap.IsCell c v → h'.IsCell c v := fun x c e v ⟨o, ho, hd⟩ => by
    have nch : c ∉ ch := fun z => (hch c z).2.2.1 x c e rfl
    by_cases hc : c ∈ X.fs
    · obtain ⟨sl, q⟩ := slot c o (I.cne x c e) hc nch ho (I.freeC x c e)
      exact ⟨_, q, hd⟩
    · exact ⟨o, keep c o (I.cne x c e) hc nch ho (I.freeC x c e), hd⟩
  refine ⟨I.ok, I.os, hg, ⟨fun b o e n hb hx => ?_, fun b o e n hb hx => ?_, fun b o e n hx => ?_, fun b o e hx => ?_, fun b xs e => tups b xs (I.base.tups b xs e), fun b o xs e => frzs b o xs (I.base.frzs b o xs e), fun b ps e => ?_⟩, ?_, fun x c e => ?_, ?_, fun x c e => ?_, fun p hp => ?_, hok, I.len⟩
  · exact keep b o (neL b o e) hb (neC b o e hx) (I.base.keep b o e n hb hx) (I.base.free b o e n hx)
  · obtain ⟨sl, e1⟩ := I.base.slot b o e n hb hx
    obtain ⟨sl', e2⟩ := slot b _ (neL b o e) hb (neC b o e hx) e1 (I.base.free b o e n hx)
    exact ⟨sl', e2⟩
  · obtain ⟨o', e1⟩ := I.base.there b o e hx
    exact free b o' (neC b o e hx) e1 (I.base.free b o e n hx)
  · obtain ⟨o', e1⟩ := I.base.there b o e hx
    exact there b o' (neC b o e hx) e1
  · obtain ⟨m1, e1⟩ := I.base.tbls b ps e
    obtain ⟨m2, e2⟩ := tbls b _ e1
    exact ⟨m1 ++ m2, by rw [e2, Array.append_assoc]⟩
  · obtain ⟨m, hn, hl⟩ := I.loc
    refine ⟨m, ns m hn, fun i x v e1 e2 e3 => ?_⟩
    obtain ⟨u, r, l⟩ := hl i x v e1 e2 e3
    refine ⟨u, r, ?_⟩
    rcases l with l | ⟨k, c, e, z⟩
    · exact .inl l
    · exact .inr ⟨k, c, e, cellK x c e _ z⟩
  · obtain ⟨v, z⟩ := I.cell x c e
    exact ⟨v, cellK x c e v z⟩
  · obtain ⟨m, ⟨o, _, _, ho, _⟩, _⟩ := I.loc
    exact free _ o (fun z => (hch _ z).2.1 rfl) ho I.free
  · obtain ⟨v, o, ho, hd⟩ := I.cell x c e
    exact free c o (fun z => (hch c z).2.2.1 x c e rfl) ho (I.freeC x c e)
  · obtain ⟨e, n, ne, nf, d⟩ := I.pin p hp
    have nch : p.1 ∉ ch := fun z => (hch p.1 z).2.2.2 p hp rfl
    exact ⟨keep p.1 p.2 ne nf nch e n, free p.1 p.2 nch e n, ne, nf, d⟩
/-- .. where the frame's own object is kept too -/
theorem Inv.un {t' : Nat} (I : Inv X pins σ H s) (u : Un X.fs [] H H' s.heap h') (hok : HOk X.prog X.w H' h') : Inv X pins σ H' { s with heap := h', toks := t' } := by
  obtain ⟨m, ⟨o, es, ep, ho, r⟩, _⟩ := id I.loc
  obtain ⟨sl, hL⟩ := u.any ho I.free (by simp)
  exact I.step (g' := s.gens) (d' := s.drawn) (ch := []) (fun _ z => nomatch z) (fun b o _ hb _ e n => u.keep b o e n hb (by simp)) (fun b o _ hb _ e n => u.slot b o e n hb (by simp)) (fun b o _ e n => u.free b o e n (by simp)) (fun b o _ e => u.there b o e (by simp)) u.tups u.frzs u.tbls (fun m' hm => by
    obtain ⟨o', es', ep', ho', r'⟩ := hm
    rw [ho] at ho'; cases ho'
    exact ⟨_, es', ep', hL, r'⟩) hok I.bare
/-- behind a call (or a comprehension's block): the slots of this frame may have changed too, the records at ch may have turned -/
theorem Inv.call {g' : Array GenState} {t' : Nat} {d' : Drawn} {ch : List Addr} (I : Inv X pins σ H s) (u : Un (frs X.stack) ch H H' s.heap h') (hok : HOk X.prog X.w H' h') (hg : AllBare g')
    (hch : ∀ b ∈ ch, (b ∈ X.ex ∨ X.s₀.heap.objs.size ≤ b) ∧ b ≠ X.env.locals ∧ (∀ x c, X.env.cells.lookup x = some c → c ≠ b) ∧ ∀ p ∈ X.pn ++ pins, p.1 ≠ b) :
    Inv X pins σ H' { s with heap := h', gens := g', drawn := d', toks := t' } := by
  obtain ⟨m, ⟨o, es, ep, ho, r⟩, _⟩ := id I.loc
  obtain ⟨sl, hL⟩ := u.any ho I.free fun z => (hch _ z).2.1 rfl
  exact I.step (ch := ch) hch (fun b o hL hb hc e n => u.keep b o e n (fun z => (List.mem_cons.mp (I.stkSub b z)).elim hL hb) hc) (fun b o _ _ hc e n => u.any e n hc) (fun b o hc e n => u.free b o e n hc) (fun b o hc e => u.there b o e hc) u.tups u.frzs u.tbls (fun m' hm => by
    obtain ⟨o', es', ep', ho', r'⟩ := hm
    rw [ho] at ho'; cases ho'
    exact ⟨_, es', ep', hL, r'⟩) hok hg
/-- an untracked record of ours (an iterator) has turned -/
theorem Inv.turned {t' : Nat} {it : Addr} (I : Inv X pins σ H s) (k : ∀ b o, b ≠ it → s.heap.get? b = some o → h'.get? b = some o) (hn : H it = none) (hL : it ≠ X.env.locals)
    (h1 : it ∈ X.ex ∨ X.s₀.heap.objs.size ≤ it) (h2 : ∀ x c, X.env.cells.lookup x = some c → c ≠ it) (h3 : ∀ p ∈ X.pn ++ pins, p.1 ≠ it) : Inv X pins σ H { s with heap := h', toks := t' } := by
  have nit : ∀ b u, H b = some u → b ≠ it := fun b u e z => by rw [z, hn] at e; cases e
  refine I.step (g' := s.gens) (d' := s.drawn) (ch := [it]) (fun b hb => ?_) (fun b o _ _ hc e _ => k b o (fun z => hc (by simp [z])) e) (fun b o _ _ hc e _ => ⟨o.slots, k b o (fun z => hc (by simp [z])) e⟩) (fun _ _ _ _ n => n)
    (fun b o hc e => ⟨o, k b o (fun z => hc (by simp [z])) e⟩) (fun _ _ e => e) (fun _ _ _ e => e) (fun b ps e => ⟨#[], by rw [e]; simp⟩) (fun m hm => ?_) (fun b u e => ?_) I.bare
  · have e : b = it := by simpa using hb
    subst e
    exact ⟨h1, hL, h2, h3⟩
  · obtain ⟨o, es, ep, ho, r⟩ := hm
    exact ⟨o, es, ep, k _ o (Ne.symm hL) ho, r⟩
  · refine (I.hok b u e).stay (fun c v hc q => k c v ?_ q) (fun _ q => q) fun _ _ q => q
    rcases hc with z | z
    · rw [z]; exact nit b u e
    · exact nit c _ z
theorem Inv.tok (I : Inv X pins σ H s) (t : Nat) : Inv X pins σ H { s with toks := t } := I.un (h' := s.heap) (t' := t) Un.refl I.hok
/-- all objects kept -/
theorem Inv.kept {t' : Nat} (I : Inv X pins σ H s) (k : ∀ b u, s.heap.get? b = some u → h'.get? b = some u) : Inv X pins σ H { s with heap := h', toks := t' } := I.un (Un.kept k) (I.hok.kept k)
/-- a new object laid and tracked -/
theorem Inv.laid {a : Addr} {o : HO} {t' : Nat} (I : Inv X pins σ H s) (k : ∀ b u, s.heap.get? b = some u → h'.get? b = some u) (hp : s.heap.objs.size ≤ a) (new : ObjOk X.prog X.w (upd H a o) h' a o) :
    Inv X pins σ (upd H a o) { s with heap := h', toks := t' } := I.un (Un.laid k hp (I.hok.fresh hp)) (I.hok.laid k hp new)
/-- an object written -/
theorem Inv.write {x e : Addr} {o : HO} {t' : Nat} (I : Inv X pins σ H s) (mu : Mut (H x)) (he : e = x ∨ H e = some (.own x)) (k : ∀ b u, b ≠ e → s.heap.get? b = some u → h'.get? b = some u) (heo : ∃ u, h'.get? e = some u)
    (new : ObjOk X.prog X.w (upd H x o) h' x o) : Inv X pins σ (upd H x o) { s with heap := h', toks := t' } := I.un (Un.write mu he k heo) (I.hok.write mu he k heo new)
theorem Inv.pins_of {pins' : List (Addr × Obj)} (I : Inv X pins σ H s) (h : ∀ p ∈ pins', s.heap.get? p.1 = some p.2 ∧ H p.1 = none ∧ p.1 ≠ X.env.locals ∧ p.1 ∉ X.fs ∧ ∀ v, p.2.data ≠ .cell v) : Inv X pins' σ H s :=
  ⟨I.ok, I.os, I.bare, I.base, I.loc, I.cell, I.free, I.freeC, fun p hp => (List.mem_append.mp hp).elim (fun z => I.pin p (List.mem_append_left _ z)) (h p), I.hok, I.len⟩

theorem nodup_ix {N : List Str} (hN : N.Nodup) {i j : Nat} {x : Str} (a : N[i]? = some x) (b : N[j]? = some x) : i = j := by
  obtain ⟨h1, e1⟩ := List.getElem?_eq_some_iff.mp a
  obtain ⟨h2, e2⟩ := List.getElem?_eq_some_iff.mp b
  exact (List.getElem_inj hN).mp (e1.trans e2.symm)

/-- a name is stored; what changed -/
theorem store_ok2 {M : Model} {A : Around} {E : Value → Shared → Prop} {i : Nat} {x : Str} {v : V} {u : Value} {Q : Unit → Shared → Prop} (I : Inv X pins σ H s) (hN : X.N.Nodup) (hi : X.N[i]? = some x) (hx : Loc X.env.scope x) (r : RelV v u)
    (h : ∀ s', Inv X pins (σ.set i (some v)) H s' → (∃ a, Heap.SameBut a s.heap s'.heap ∧ (a = X.env.locals ∨ X.env.cells.lookup x = some a)) → Q () s') (hf : X.fn x = true ∨ X.env.scope.names.lookup x = some .local := by first | exact .inl rfl | exact .inr rfl | assumption) : wpAny M A (storeName X.env x u) Q E s := by
  obtain ⟨m, hn, hl⟩ := id I.loc
  have hcls : (X.env.scope.kind == .class || (X.env.scope.kind == .module && X.env.locals != X.env.globals)) = false := by rw [I.ok.kind]; rfl
  have hiσ : i < σ.length := by rw [I.len]; exact (List.getElem?_eq_some_iff.mp hi).1
  have cne := I.cne
  have tracked : ∀ {a : Addr} {h' : Heap}, (∃ o, s.heap.get? a = some o ∧ H a = none) → Heap.SameBut a s.heap h' → HOk X.prog X.w H h' := fun {a h'} ha hs b ob e => by
    obtain ⟨_, _, hfree⟩ := ha
    refine (I.hok b ob e).stay (fun c w' hc q => (hs.2 c ?_).trans q) (fun _ q => q) fun _ _ q => q
    rintro rfl
    rcases hc with rfl | hc
    · rw [hfree] at e; cases e
    · rw [hfree] at hc; cases hc
  rcases hx with hk | hk
  · refine wpAny_storeName_local hk hn (fun h' hn' hs => ?_) hcls
    obtain ⟨oL, _, _, hoL, _⟩ := id hn
    refine h _ ⟨I.ok, I.os, I.bare, ⟨fun b o e n hb hx => ?_, fun b o e n hb hx => ?_, I.base.free, fun b o e hx => ?_, I.base.tups, I.base.frzs, I.base.tbls⟩, ⟨_, hn', fun j y v' e1 e2 e3 => ?_⟩, fun y c e => ?_, I.free, I.freeC, fun p hp => ?_, tracked ⟨oL, hoL, I.free⟩ hs, by simpa using I.len⟩ ⟨_, hs, .inl rfl⟩
    · exact (hs.2 b (Nat.ne_of_lt (Nat.lt_of_lt_of_le (Heap.lt_size e) I.ok.above))).trans (I.base.keep b o e n hb hx)
    · obtain ⟨sl, e1⟩ := I.base.slot b o e n hb hx
      exact ⟨sl, (hs.2 b (Nat.ne_of_lt (Nat.lt_of_lt_of_le (Heap.lt_size e) I.ok.above))).trans e1⟩
    · obtain ⟨o', e1⟩ := I.base.there b o e hx
      exact ⟨o', (hs.2 b (Nat.ne_of_lt (Nat.lt_of_lt_of_le (Heap.lt_size e) I.ok.above))).trans e1⟩
    · by_cases hj : j = i
      · subst hj
        rw [hi] at e1; cases e1
        rw [List.getElem?_set_self hiσ] at e2
        cases e2
        exact ⟨u, r, .inl ⟨hk, by simp⟩⟩
      · rw [List.getElem?_set_ne (Ne.symm hj)] at e2
        obtain ⟨u', r', q⟩ := hl j y v' e1 e2 e3
        refine ⟨u', r', ?_⟩
        rcases q with ⟨k, e⟩ | ⟨k, c, e, z⟩
        · refine .inl ⟨k, ?_⟩
          have : y ≠ x := fun e => hj (nodup_ix hN e1 (e ▸ hi))
          simp [this, e]
        · exact .inr ⟨k, c, e, z.sameBut hs (cne y c e)⟩
    · obtain ⟨w', z⟩ := I.cell y c e
      exact ⟨w', z.sameBut hs (cne y c e)⟩
    · obtain ⟨e, n, ne, nf, d⟩ := I.pin p hp
      exact ⟨(hs.2 p.1 ne).trans e, n, ne, nf, d⟩
  · have hfn : X.fn x = true := by
      rcases hf with z | z
      · exact z
      · rw [z] at hk; cases hk
    obtain ⟨c, hc⟩ := I.ok.has x (.inl hk)
    obtain ⟨w', z⟩ := I.cell x c hc
    refine wpAny_storeName_cell I.ok.kind hk hc z (fun h' hc' hs => ?_)
    obtain ⟨oc, hoc, hocd⟩ := id z
    refine h { s with heap := h' } ⟨I.ok, I.os, I.bare, ⟨fun b o e n hb hx => ?_, fun b o e n hb hx => ?_, I.base.free, fun b o e hx => ?_, I.base.tups, I.base.frzs, I.base.tbls⟩, ⟨m, hn.sameBut hs (Ne.symm (cne x c hc)), fun j y v' e1 e2 e3 => ?_⟩, fun y c' e => ?_, I.free, I.freeC, fun p hp => ?_, tracked ⟨oc, hoc, I.freeC x c hc⟩ hs, by simpa using I.len⟩ ⟨c, hs, .inr hc⟩
    · exact (hs.2 b (Nat.ne_of_lt (Nat.lt_of_lt_of_le (Heap.lt_size e) (I.ok.cab x c hfn hc)))).trans (I.base.keep b o e n hb hx)
    · obtain ⟨sl, e1⟩ := I.base.slot b o e n hb hx
      exact ⟨sl, (hs.2 b (Nat.ne_of_lt (Nat.lt_of_lt_of_le (Heap.lt_size e) (I.ok.cab x c hfn hc)))).trans e1⟩
    · obtain ⟨o', e1⟩ := I.base.there b o e hx
      exact ⟨o', (hs.2 b (Nat.ne_of_lt (Nat.lt_of_lt_of_le (Heap.lt_size e) (I.ok.cab x c hfn hc)))).trans e1⟩
    · by_cases hj : j = i
      · subst hj
        rw [hi] at e1; cases e1
        rw [List.getElem?_set_self hiσ] at e2
        cases e2
        exact ⟨u, r, .inr ⟨.inl hk, c, hc, hc'⟩⟩
      · rw [List.getElem?_set_ne (Ne.symm hj)] at e2
        obtain ⟨u', r', q⟩ := hl j y v' e1 e2 e3
        refine ⟨u', r', ?_⟩
        rcases q with q | ⟨k, c', e, z'⟩
        · exact .inl q
        · refine .inr ⟨k, c', e, z'.sameBut hs ?_⟩
          rintro rfl
          exact hj (nodup_ix hN e1 (I.ok.inj _ _ _ e hc ▸ hi))
    · by_cases hcc : c' = c
      · subst hcc; exact ⟨_, hc'⟩
      · obtain ⟨w2, z2⟩ := I.cell y c' e
        exact ⟨w2, z2.sameBut hs hcc⟩
    · obtain ⟨e, n, ne, nf, d⟩ := I.pin p hp
      refine ⟨(hs.2 p.1 ?_).trans e, n, ne, nf, d⟩
      intro q
      rw [q, hoc] at e
      have q' : oc = p.2 := Option.some.inj e
      exact d w' (by rw [← q']; exact hocd)
theorem store_ok {M : Model} {A : Around} {E : Value → Shared → Prop} {i : Nat} {x : Str} {v : V} {u : Value} {Q : Unit → Shared → Prop} (I : Inv X pins σ H s) (hN : X.N.Nodup) (hi : X.N[i]? = some x) (hx : Loc X.env.scope x) (r : RelV v u)
    (h : ∀ s', Inv X pins (σ.set i (some v)) H s' → Q () s') (hf : X.fn x = true ∨ X.env.scope.names.lookup x = some .local := by first | exact .inl rfl | exact .inr rfl | assumption) : wpAny M A (storeName X.env x u) Q E s :=
  store_ok2 I hN hi hx r (fun s' I' _ => h s' I') hf
/-- behind a call or a block, the state as it is -/
theorem Inv.call' {s' : Shared} {ch : List Addr} (I : Inv X pins σ H s) (ho : s'.os = s.os) (u : Un (frs X.stack) ch H H' s.heap s'.heap) (hok : HOk X.prog X.w H' s'.heap) (hg : AllBare s'.gens)
    (hch : ∀ b ∈ ch, (b ∈ X.ex ∨ X.s₀.heap.objs.size ≤ b) ∧ b ≠ X.env.locals ∧ (∀ x c, X.env.cells.lookup x = some c → c ≠ b) ∧ ∀ p ∈ X.pn ++ pins, p.1 ≠ b) : Inv X pins σ H' s' := by
  obtain ⟨h', g', d', t', o'⟩ := s'
  have e : o' = s.os := ho
  subst e
  exact I.call (g' := g') (t' := t') (d' := d') u hok hg hch
end

/-! ### the judgements -/
/-- an exception: its class, its own dict's address (where it has one), the abstract heap behind it -/
abbrev XK := Value → Option Addr → Hp → Prop
abbrev St := List (Option V)
abbrev VK := V → Hp → Prop
/-- an expression's reading; a test's; an argument list's -/
abbrev TE := St → Hp → VK → Prop
abbrev TT := St → Hp → (Bool → Hp → Prop) → Prop
abbrev TA := St → Hp → (List V → Hp → Prop) → Prop
/-- what is wanted behind a statement -/
structure Ends where
  nx : St → Hp → Prop
  rt : VK
  bk : St → Hp → Prop := fun _ _ => False
  ct : St → Hp → Prop := fun _ _ => False
abbrev TS := Ends → St → Hp → Prop

def EP (X : Cx) (pins : List (Addr × Obj)) (σ : St) (Q : VK) (u : Value) (s' : Shared) : Prop := ∃ v H', Inv X pins σ H' s' ∧ RelV v u ∧ Q v H'
def TP (X : Cx) (pins : List (Addr × Obj)) (σ : St) (Q : Bool → Hp → Prop) (b : Bool) (s' : Shared) : Prop := ∃ H', Inv X pins σ H' s' ∧ Q b H'
def AP (X : Cx) (pins : List (Addr × Obj)) (σ : St) (Q : List V → Hp → Prop) (us : List Value) (s' : Shared) : Prop := ∃ vs H', Inv X pins σ H' s' ∧ Vals vs us ∧ Q vs H'
def SP (X : Cx) (pins : List (Addr × Obj)) (D : Ends) (f : Flow) (s' : Shared) : Prop :=
  match f with
  | .next => ∃ σ' H', Inv X pins σ' H' s' ∧ D.nx σ' H'
  | .brk => ∃ σ' H', Inv X pins σ' H' s' ∧ D.bk σ' H'
  | .cont => ∃ σ' H', Inv X pins σ' H' s' ∧ D.ct σ' H'
  | .ret u => ∃ v σ' H', Inv X pins σ' H' s' ∧ RelV v u ∧ D.rt v H'

def PE (X : Cx) (e : Expr) (t : TE) : Prop :=
  ∀ (pins : List (Addr × Obj)) (s : Shared) (σ : St) (H : Hp) (Q : VK), Inv X pins σ H s → t σ H Q → wpAny (model X.prog X.w) X.A (eval e X.env) (EP X pins σ Q) X.xe s
def PT (X : Cx) (e : Expr) (t : TT) : Prop :=
  ∀ (pins : List (Addr × Obj)) (s : Shared) (σ : St) (H : Hp) (Q : Bool → Hp → Prop), Inv X pins σ H s → t σ H Q → wpAny (model X.prog X.w) X.A (isTrue e X.env (eval e X.env)) (TP X pins σ Q) X.xe s
/-- a test whatever its 'whole' is (and, or) -/
def PW (X : Cx) (e : Expr) (t : TT) : Prop :=
  ∀ (whole : Sem Value) (pins : List (Addr × Obj)) (s : Shared) (σ : St) (H : Hp) (Q : Bool → Hp → Prop), Inv X pins σ H s → t σ H Q → wpAny (model X.prog X.w) X.A (isTrue e X.env whole) (TP X pins σ Q) X.xe s
theorem PW.pt {X : Cx} {e : Expr} {t : TT} (h : PW X e t) : PT X e t := h _
/-- an argument list (no star), from the left -/
def PA (X : Cx) (es : List Expr) (t : TA) : Prop :=
  ∀ (pos : Pos) (pins : List (Addr × Obj)) (s : Shared) (σ : St) (H : Hp) (Q : List V → Hp → Prop), Inv X pins σ H s → t σ H Q → wpAny (model X.prog X.w) X.A (spliced (backTo pos (starEach es X.env))) (AP X pins σ Q) X.xe s
def PS (X : Cx) (st : Stmt) (t : TS) : Prop :=
  ∀ (pins : List (Addr × Obj)) (s : Shared) (σ : St) (H : Hp) (D : Ends), Inv X pins σ H s → t D σ H → wpAny (model X.prog X.w) X.A (exec st X.env) (SP X pins D) X.xe s
def PSs (X : Cx) (st : List Stmt) (t : TS) : Prop :=
  ∀ (pins : List (Addr × Obj)) (s : Shared) (σ : St) (H : Hp) (D : Ends), Inv X pins σ H s → t D σ H → wpAny (model X.prog X.w) X.A (execs st X.env) (SP X pins D) X.xe s
/-- weaken the end -/
theorem thn {α : Type} {t : Sem α} {Q Q' : α → Shared → Prop} {M : Model} {A : Around} {E : Value → Shared → Prop} {s : Shared} (h : wpAny M A t Q E s) (hQ : ∀ a s, Q a s → Q' a s) : wpAny M A t Q' E s := wpAny_mono h hQ fun _ _ x => x
end L2

namespace L2
open PySem PySem.Spec PyProof.Rows
section
variable {X : Cx}

/-- two expressions in a row -/
theorem bin {a b : Expr} {ta tb : TE} (ha : PE X a ta) (hb : PE X b tb) {pins : List (Addr × Obj)} {s : Shared} {σ : St} {H : Hp} {R : V → V → Hp → Prop} (I : Inv X pins σ H s) (h : ta σ H fun x H1 => tb σ H1 fun y H2 => R x y H2)
    {α : Type} {Q : α → Shared → Prop} {f : Value → Value → Sem α}
    (hf : ∀ v u s2 x y H2, Inv X pins σ H2 s2 → RelV x v → RelV y u → R x y H2 → wpAny (model X.prog X.w) X.A (f v u) Q X.xe s2) :
    wpAny (model X.prog X.w) X.A (eval a X.env) (fun v s₁ => wpAny (model X.prog X.w) X.A (eval b X.env) (fun u s₂ => wpAny (model X.prog X.w) X.A (f v u) Q X.xe s₂) X.xe s₁) X.xe s := by
  refine thn (ha pins s σ H _ I h) fun v s1 ⟨x, H1, I1, r1, q1⟩ => ?_
  refine thn (hb pins s1 σ H1 _ I1 q1) fun u s2 ⟨y, H2, I2, r2, q2⟩ => ?_
  exact hf v u s2 x y H2 I2 r1 r2 q2

/-! ### names and constants -/
def tVar (i : Nat) : TE := fun σ H Q => ∃ v, σ[i]? = some (some v) ∧ Q v H
def tC (v : V) : TE := fun _ H Q => Q v H
theorem pe_var {i : Nat} {x : Str} {pos : Pos} (hN : X.N[i]? = some x) (hv : Vis X.env.scope x) (hd : (x == ("__debug__" : Str)) = false := by decide) (hcd : (x == ("__classdict__" : Str)) = false := by decide) : PE X (.Name x pos) (tVar i) := by
  intro pins s σ H Q I h
  obtain ⟨v, e, h⟩ := h
  obtain ⟨m, hn, hl⟩ := I.loc
  obtain ⟨u, r, l⟩ := hl i x v hN e hv
  have fin : EP X pins σ Q u s := ⟨v, H, I, r, h⟩
  rcases l with ⟨hk, hm⟩ | ⟨hk, c, hc, hcell⟩
  · exact wpAny_Name (wpAny_loadName_local I.ok.kind hk hn hm fin) hd
  · rcases hk with hk | hk
    · exact wpAny_Name (wpAny_loadName_cell I.ok.kind hk hc hcell fin) hd
    · exact wpAny_Name (wpAny_loadName_free I.ok.kind hk hc hcell fin hcd) hd
theorem pe_int {i j pos} : PE X (.Constant (.int i) j pos) (tC (.int i)) := fun _ _ _ H _ I h => wpAny_Constant_int ⟨.int i, H, I.tok _, ⟨_, rfl⟩, h⟩
theorem pe_bl {b j pos} : PE X (.Constant (.bool b) j pos) (tC (.bl b)) := fun _ _ _ H _ I h => Constant_bool ⟨.bl b, H, I, rfl, h⟩
theorem pe_non {j pos} : PE X (.Constant .none j pos) (tC .non) := fun _ _ _ H _ I h => Constant_none ⟨.non, H, I, rfl, h⟩
theorem pe_str {x j pos} : PE X (.Constant (.str x) j pos) (tC (.str x)) := fun _ _ _ H _ I h => Calls.Constant_str ⟨.str x, H, I.tok _, ⟨_, rfl⟩, h⟩

/-- a global name of the def -/
def Gl (X : Cx) (x : Str) : Prop := X.env.kindOf x = some .globalImplicit
theorem ld_glob {E : Value → Shared → Prop} {pins : List (Addr × Obj)} {s : Shared} {σ : St} {H : Hp} {x : Str} {u : Value} {pos : Pos} {Q : Value → Shared → Prop} (I : Inv X pins σ H s) (hg : Gl X x) (hm : X.mg x = some u) (h : Q u s)
    (hd : (x == ("__debug__" : Str)) = false := by decide) : wpAny (model X.prog X.w) X.A (eval (.Name x pos) X.env) Q E s :=
  Calls.Name_function_global I.ok.kind hg (Calls.loadGlobal_global (by rw [I.ok.glob]; exact I.mod.glob.keeps I.bk) hm h) hd
theorem ld_blt {E : Value → Shared → Prop} {pins : List (Addr × Obj)} {s : Shared} {σ : St} {H : Hp} {x : Str} {u : Value} {pos : Pos} {Q : Value → Shared → Prop} (I : Inv X pins σ H s) (hg : Gl X x) (hm : X.mg x = none) (hv : bootBuiltins x = some u) (h : Q u s)
    (hn : x ≠ "__name__" := by decide) (hd : (x == ("__debug__" : Str)) = false := by decide) : wpAny (model X.prog X.w) X.A (eval (.Name x pos) X.env) Q E s := by
  obtain ⟨mb, h1, h2⟩ := I.mod.blt
  exact Calls.Name_function_global I.ok.kind hg (Calls.loadGlobal_builtin (by rw [I.ok.glob]; exact I.mod.glob.keeps I.bk) hm (by rw [I.ok.blt]; exact h1.keeps I.bk) ((h2 x hn).trans hv) h) hd
/-- a module's constant, a class, a function, as a value -/
theorem pe_glob {x : Str} {v : V} {u : Value} {pos : Pos} (hg : Gl X x) (hm : X.mg x = some u) (r : RelV v u) (hd : (x == ("__debug__" : Str)) = false := by decide) : PE X (.Name x pos) (tC v) :=
  fun _ _ _ H _ I h => ld_glob I hg hm ⟨v, H, I, r, h⟩ hd
theorem pe_bltn {x : Str} {v : V} {u : Value} {pos : Pos} (hg : Gl X x) (hm : X.mg x = none) (hv : bootBuiltins x = some u) (r : RelV v u) (hn : x ≠ "__name__" := by decide) (hd : (x == ("__debug__" : Str)) = false := by decide) : PE X (.Name x pos) (tC v) :=
  fun _ _ _ H _ I h => ld_blt I hg hm hv ⟨v, H, I, r, h⟩ hn hd

/-! ### arithmetic -/
variable {a b : Expr} {ta tb : TE} {pos : Pos}
/-! ### comparisons -/
/-! ### and, or, not -/
variable {tA tB' : TT} {rest : List Expr}
def tAnd (t u : TT) : TT := fun σ H Q => t σ H fun c H1 => if c = true then u σ H1 Q else Q false H1
def tOr (t u : TT) : TT := fun σ H Q => t σ H fun c H1 => if c = true then Q true H1 else u σ H1 Q
def tNot (t : TT) : TT := fun σ H Q => t σ H fun c H1 => Q (!c) H1
theorem pw_and1 (ha : PT X a tA) : PW X (.BoolOp .And [a] pos) tA := by
  intro wh pins s σ H Q I h
  refine isTrue_and (thn (ha pins s σ H Q I h) fun c s1 e => ?_)
  cases c with
  | true => exact isTrue_and_nil e
  | false => exact e
theorem pw_or1 (ha : PT X a tA) : PW X (.BoolOp .Or [a] pos) tA := by
  intro wh pins s σ H Q I h
  refine isTrue_or (thn (ha pins s σ H Q I h) fun c s1 e => ?_)
  cases c with
  | false => exact isTrue_or_nil e
  | true => exact e
theorem pw_and (ha : PT X a tA) (hb : PW X (.BoolOp .And (b :: rest) pos) tB') : PW X (.BoolOp .And (a :: b :: rest) pos) (tAnd tA tB') := by
  intro wh pins s σ H Q I h
  refine isTrue_and (thn (ha pins s σ H _ I h) fun c s1 ⟨H1, I1, q1⟩ => ?_)
  cases c with
  | true => exact hb wh pins s1 σ H1 Q I1 q1
  | false => exact ⟨H1, I1, q1⟩
theorem pw_or (ha : PT X a tA) (hb : PW X (.BoolOp .Or (b :: rest) pos) tB') : PW X (.BoolOp .Or (a :: b :: rest) pos) (tOr tA tB') := by
  intro wh pins s σ H Q I h
  refine isTrue_or (thn (ha pins s σ H _ I h) fun c s1 ⟨H1, I1, q1⟩ => ?_)
  cases c with
  | true => exact ⟨H1, I1, q1⟩
  | false => exact hb wh pins s1 σ H1 Q I1 q1
theorem pt_not (ha : PT X a tA) : PT X (.UnaryOp .Not a pos) (tNot tA) := by
  intro pins s σ H Q I h
  exact isTrue_not (ha pins s σ H (fun c H1 => Q (!c) H1) I h)
theorem pe_one {op} {t : TE} (h : PE X a t) : PE X (.BoolOp op [a] pos) t := fun pins s σ H Q I hw => BoolOp_one (h pins s σ H Q I hw)
end
end L2

namespace L2
open PySem PySem.Spec PyProof.Rows

/-! ### a list, a tuple that is read: tracked, frozen, or an object of the module -/
def SqL (K : PySem.W.Frag) (H : Hp) (a : Addr) (xs : List V) : Prop :=
  Rd H a (.lst xs) ∨
    ∃ (o : Obj) (its : Array Value) (n : Nat), K.lookup a = some o ∧ o.cls = .type "list" ∧ o.dict = none ∧ o.data = .seq its n ∧ its.size ≤ sizeLine ∧ Vals xs its.toList
def SqT (K : PySem.W.Frag) (H : Hp) (a : Addr) (xs : List V) : Prop :=
  Rd H a (.tup xs) ∨
    ∃ (o : Obj) (its : Array Value) (n : Nat), K.lookup a = some o ∧ o.cls = .type "tuple" ∧ o.data = .seq its n ∧ its.size ≤ sizeLine ∧ Vals xs its.toList
def absV : Value → Option V
  | .none => some .non
  | .bool b => some (.bl b)
  | .int i _ => some (.int i)
  | .str x _ => some (.str x)
  | .bytes b _ => some (.byt b)
  | .float b _ => some (.flt b)
  | .ref a => some (.ref a)
  | .type n => some (.ty n)
  | _ => none
theorem RelV.abs {x : V} {u : Value} (r : RelV x u) : absV u = some x := by
  cases x with
  | non => cases r; rfl
  | bl _ => cases r; rfl
  | int _ => obtain ⟨t, rfl⟩ := r; rfl
  | str _ => obtain ⟨t, rfl⟩ := r; rfl
  | byt _ => obtain ⟨t, rfl⟩ := r; rfl
  | flt _ => obtain ⟨t, rfl⟩ := r; rfl
  | ref _ => cases r; rfl
  | ty _ => cases r; rfl
theorem RelV.inj {x y : V} {u : Value} (r : RelV x u) (q : RelV y u) : x = y := Option.some.inj (r.abs.symm.trans q.abs)
theorem Vals.inj : ∀ {xs ys : List V} {us : List Value}, Vals xs us → Vals ys us → xs = ys
  | _, _, _, .nil, .nil => rfl
  | _, _, _, .cons r t, .cons r' t' => by rw [r.inj r', Vals.inj t t']
section
variable {X : Cx} {pins : List (Addr × Obj)} {σ : St} {H : Hp} {s : Shared} {a : Addr} {xs ys : List V}
theorem SqL.of {K : PySem.W.Frag} (h : H a = some (.lst xs)) : SqL K H a xs := .inl (.inl h)
theorem SqT.of {K : PySem.W.Frag} (h : H a = some (.tup xs)) : SqT K H a xs := .inl (.inl h)
theorem Inv.list (I : Inv X pins σ H s) (h : SqL X.K H a xs) : ∃ its : List Value, Vals xs its ∧ PlainL s.heap a its.toArray ∧ xs.length ≤ sizeLine := by
  rcases h with h | ⟨o, its, n, hk, hc, hd, hs, hz, r⟩
  · obtain ⟨z, its, n, r, e⟩ := h.ok I.hok
    exact ⟨its, r, ⟨_, n, e, rfl, rfl, rfl⟩, z⟩
  · refine ⟨its.toList, r, ⟨o, n, I.kIn a o hk, hc, hd, by simpa using hs⟩, ?_⟩
    have e := r.length
    simp only [Array.length_toList] at e
    omega
theorem Inv.tuple (I : Inv X pins σ H s) (h : SqT X.K H a xs) : ∃ its : List Value, Vals xs its ∧ IsTup s.heap a its.toArray ∧ xs.length ≤ sizeLine := by
  rcases h with h | ⟨o, its, n, hk, hc, hs, hz, r⟩
  · obtain ⟨z, its, r, p⟩ := h.ok I.hok
    exact ⟨its, r, p, z⟩
  · refine ⟨its.toList, r, ⟨o, I.kIn a o hk, hc, n, by simpa using hs⟩, ?_⟩
    have e := r.length
    simp only [Array.length_toList] at e
    omega
theorem Inv.list_inj (I : Inv X pins σ H s) (h : SqL X.K H a xs) (h' : SqL X.K H a ys) : xs = ys := by
  obtain ⟨its, r, ⟨o, n, e, _, _, d⟩, _⟩ := I.list h
  obtain ⟨its', r', ⟨o', n', e', _, _, d'⟩, _⟩ := I.list h'
  rw [e] at e'; cases e'
  rw [d] at d'
  injection d' with d1 _
  have : its = its' := by simpa using congrArg Array.toList d1
  subst this
  exact r.inj r'
theorem Inv.tuple_inj (I : Inv X pins σ H s) (h : SqT X.K H a xs) (h' : SqT X.K H a ys) : xs = ys := by
  obtain ⟨its, r, ⟨o, e, _, n, d⟩, _⟩ := I.tuple h
  obtain ⟨its', r', ⟨o', e', _, n', d'⟩, _⟩ := I.tuple h'
  rw [e] at e'; cases e'
  rw [d] at d'
  injection d' with d1 _
  have : its = its' := by simpa using congrArg Array.toList d1
  subst this
  exact r.inj r'
end

/-! ### another wish about exceptions -/
abbrev Cx.wish (X : Cx) (E : Value → Shared → Prop) : Cx := { X with xe := E }
/-- no exception leaves -/
abbrev Cx.nox (X : Cx) : Cx := X.wish fun _ _ => False
theorem Cx.Ok.wish {X : Cx} (ok : X.Ok) (E : Value → Shared → Prop) : (X.wish E).Ok :=
  ⟨ok.mod, ok.kind, ok.glob, ok.blt, ok.above, ok.inj, ok.has, ok.cab, ok.hd, ok.frames, ok.stk, ok.exf, ok.bs, ok.bsz, ok.noex, ok.exfs, ok.funs, ok.frf⟩
theorem Cx.Ok.unwish {X : Cx} {E : Value → Shared → Prop} (ok : (X.wish E).Ok) : X.Ok :=
  ⟨ok.mod, ok.kind, ok.glob, ok.blt, ok.above, ok.inj, ok.has, ok.cab, ok.hd, ok.frames, ok.stk, ok.exf, ok.bs, ok.bsz, ok.noex, ok.exfs, ok.funs, ok.frf⟩
section
variable {X : Cx} {pins : List (Addr × Obj)} {σ : St} {H : Hp} {s : Shared} {E : Value → Shared → Prop}
theorem Inv.wish (I : Inv X pins σ H s) (E : Value → Shared → Prop) : Inv (X.wish E) pins σ H s := ⟨I.ok.wish E, I.os, I.bare, I.base, I.loc, I.cell, I.free, I.freeC, I.pin, I.hok, I.len⟩
theorem Inv.unwish (I : Inv (X.wish E) pins σ H s) : Inv X pins σ H s := ⟨I.ok.unwish, I.os, I.bare, I.base, I.loc, I.cell, I.free, I.freeC, I.pin, I.hok, I.len⟩
theorem SP.unwish {D : Ends} {f : Flow} {s' : Shared} (h : SP (X.wish E) pins D f s') : SP X pins D f s' := by
  cases f with
  | next => obtain ⟨σ', H', I, q⟩ := h; exact ⟨σ', H', I.unwish, q⟩
  | brk => obtain ⟨σ', H', I, q⟩ := h; exact ⟨σ', H', I.unwish, q⟩
  | cont => obtain ⟨σ', H', I, q⟩ := h; exact ⟨σ', H', I.unwish, q⟩
  | ret u => obtain ⟨v, σ', H', I, r, q⟩ := h; exact ⟨v, σ', H', I.unwish, r, q⟩
theorem PSs.nox {st : List Stmt} {t : TS} (h : PSs X.nox st t) : PSs X st t := fun pins s σ H D I hw =>
  wpAny_mono (h pins s σ H D (I.wish _) hw) (fun _ _ q => q.unwish) fun _ _ z => False.elim z
end

/-! ### blocks and small statements -/
section
variable {X : Cx} {st : Stmt} {rest : List Stmt} {t u : TS} {e : Expr} {te : TE} {pos : Pos}
def tNext : TS := fun D σ H => D.nx σ H
def tSeq (t u : TS) : TS := fun D σ H => t { D with nx := u D } σ H
theorem pss_nil : PSs X [] tNext := fun _ _ σ H _ I h => wpAny_execs_nil ⟨σ, H, I, h⟩
theorem pss_cons (h1 : PS X st t) (h2 : PSs X rest u) : PSs X (st :: rest) (tSeq t u) := by
  intro pins s σ H D I h
  refine wpAny_execs_cons (thn (h1 pins s σ H { D with nx := u D } I h) fun f s1 q => ?_)
  cases f with
  | next =>
    obtain ⟨σ', H', I', q⟩ := q
    exact h2 pins s1 σ' H' D I' q
  | ret v => exact q
  | brk => exact q
  | cont => exact q
theorem pss_one (h1 : PS X st t) : PSs X [st] t := by
  intro pins s σ H D I h
  refine wpAny_execs_cons (thn (h1 pins s σ H D I h) fun f s1 q => ?_)
  cases f with
  | next => exact wpAny_execs_nil q
  | ret v => exact q
  | brk => exact q
  | cont => exact q
/-- in a def's body nothing is shown -/
theorem Inv.quiet {pins : List (Addr × Obj)} {σ : St} {H : Hp} {s : Shared} (I : Inv X pins σ H s) : interactive X.env = false := by simp [interactive, I.ok.kind]
/-- an expression whose value is dropped -/
def tDrop (te : TE) : TS := fun D σ H => te σ H fun _ H1 => D.nx σ H1
theorem ps_expr (he : PE X e te) (hs : swapsWith e none pos.line X.env = pure false := by rfl) : PS X (.Expr e pos) (tDrop te) := by
  intro pins s σ H D I h
  exact wpAny_Expr_any (thn (he pins s σ H _ I h) fun v s1 ⟨x, H1, I1, r1, q1⟩ => ⟨σ, H1, I1, q1⟩) I.quiet hs
def tRet (te : TE) : TS := fun D σ H => te σ H D.rt
theorem ps_ret (he : PE X e te) : PS X (.Return (some e) pos) (tRet te) := by
  intro pins s σ H D I h
  exact wpAny_Return_some (thn (he pins s σ H _ I h) fun v s1 ⟨x, H1, I1, r1, q1⟩ => ⟨x, σ, H1, I1, r1, q1⟩)
def tIfS (c : TT) (t u : TS) : TS := fun D σ H => c σ H fun b H1 => if b = true then t D σ H1 else u D σ H1
theorem ps_if {c : Expr} {a b : List Stmt} {tc : TT} (hc : PT X c tc) (ha : PSs X a t) (hb : PSs X b u) : PS X (.If c a b pos) (tIfS tc t u) := by
  intro pins s σ H D I h
  refine wpAny_If (thn (hc pins s σ H _ I h) fun d s1 ⟨H1, I1, q1⟩ => ?_)
  cases d with
  | true => exact ha pins s1 σ H1 D I1 q1
  | false => exact hb pins s1 σ H1 D I1 q1
end

/-! ### targets -/
abbrev TG := V → St → Hp → (St → Hp → Prop) → Prop
abbrev TGs := List V → St → Hp → (St → Hp → Prop) → Prop
def PG (X : Cx) (target : Expr) (t : TG) : Prop :=
  ∀ (pins : List (Addr × Obj)) (s : Shared) (σ : St) (H : Hp) (v : V) (u : Value) (Q : St → Hp → Prop), Inv X pins σ H s → RelV v u → t v σ H Q →
    wpAny (model X.prog X.w) X.A (assign target X.env u) (fun _ s' => ∃ σ' H', Inv X pins σ' H' s' ∧ Q σ' H') X.xe s
/-- several targets, one after another -/
def PGs (X : Cx) (ts : List Expr) (t : TGs) : Prop :=
  ∀ (pins : List (Addr × Obj)) (s : Shared) (σ : St) (H : Hp) (vs : List V) (us : List Value) (Q : St → Hp → Prop), Inv X pins σ H s → Vals vs us → t vs σ H Q →
    wpAny (model X.prog X.w) X.A (assignInOrder ((assignEach ts X.env).map (·.2)) us) (fun _ s' => ∃ σ' H', Inv X pins σ' H' s' ∧ Q σ' H') X.xe s
/-- o[i] = v, by values -/
abbrev TSet := V → V → V → Hp → (Hp → Prop) → Prop
def PSet (X : Cx) (t : TSet) : Prop :=
  ∀ (pins : List (Addr × Obj)) (s : Shared) (σ : St) (H : Hp) (o i v : V) (ov iv u : Value) (Q : Hp → Prop), Inv X pins σ H s → RelV o ov → RelV i iv → RelV v u → t o i v H Q →
    wpAny (model X.prog X.w) X.A (setItem ov iv u) (fun _ s' => ∃ H', Inv X pins σ H' s' ∧ Q H') X.xe s
section
variable {X : Cx} {pos : Pos}
def gName (i : Nat) : TG := fun v σ H Q => Q (σ.set i (some v)) H
theorem pg_name {i : Nat} {x : Str} (hN : X.N.Nodup) (hi : X.N[i]? = some x) (hx : Loc X.env.scope x) (hf : X.fn x = true ∨ X.env.scope.names.lookup x = some .local := by first | exact .inl rfl | exact .inr rfl | assumption) : PG X (.Name x pos) (gName i) := by
  intro pins s σ H v u Q I r h
  exact wpAny_assign_Name (store_ok I hN hi hx r (fun s' I' => ⟨_, H, I', h⟩) hf)
def gNil : TGs := fun vs σ H Q => vs = [] ∧ Q σ H
def gCons (t : TG) (u : TGs) : TGs := fun vs σ H Q => ∃ v r, vs = v :: r ∧ t v σ H fun σ' H' => u r σ' H' Q
theorem pgs_nil : PGs X [] gNil := by
  intro pins s σ H vs us Q I r h
  obtain ⟨e, h⟩ := h
  subst e
  cases r
  exact assignInOrder_nil ⟨σ, H, I, h⟩
theorem pgs_cons {e : Expr} {es : List Expr} {t : TG} {u : TGs} (h1 : PG X e t) (h2 : PGs X es u)
    (hs : (assignEach (e :: es) X.env).map (·.2) = assign e X.env :: (assignEach es X.env).map (·.2) := by rfl) : PGs X (e :: es) (gCons t u) := by
  intro pins s σ H vs us Q I r h
  obtain ⟨v, vr, e1, h⟩ := h
  subst e1
  cases r with
  | cons r rr =>
    rw [hs]
    refine assignInOrder_cons (thn (h1 pins s σ H _ _ _ I r h) fun _ s1 ⟨σ1, H1, I1, q1⟩ => ?_)
    exact h2 pins s1 σ1 H1 _ _ Q I1 rr q1
/-- (a, b, ..) = a tuple of that length -/
def gTup (K : PySem.W.Frag) (n : Nat) (t : TGs) : TG := fun v σ H Q => ∃ a xs, v = .ref a ∧ SqT K H a xs ∧ xs.length = n ∧ t xs σ H Q
theorem pg_tup {es : List Expr} {k : Nat} {t : TGs} {n : Nat} (hc : X.calm = true) (h : PGs X es t)
    (hn : (assignEach es X.env).length = n := by rfl) (hst : (assignEach es X.env).findIdx? (·.1) = none := by rfl) : PG X (.Tuple es k pos) (gTup X.K n t) := by
  intro pins s σ H v u Q I r hw
  obtain ⟨a, xs, e1, hq, hl, hw⟩ := hw
  subst e1
  cases r
  obtain ⟨its, rv, ht, hz⟩ := I.tuple hq
  refine assign_Tuple_tuple (I.ok.hd hc) ht (by simp [hn, ← hl, rv.length]) hst fun h' hx => ?_
  have I1 : Inv X pins σ H { s with heap := h' } := I.kept (t' := s.toks) fun b o e => hx b o (Nat.ne_of_lt (Heap.lt_size e)) e
  exact h pins _ σ H xs _ Q I1 (by simpa using rv) hw
/-- o[i] = .. -/
def gSub (to ti : TE) (t : TSet) : TG := fun v σ H Q => to σ H fun o H1 => ti σ H1 fun i H2 => t o i v H2 fun H3 => Q σ H3
theorem pg_sub {o i : Expr} {to ti : TE} {t : TSet} (ho : PE X o to) (hi : PE X i ti) (hs : PSet X t)
    (ha : ∀ v, assign (.Subscript o i pos) X.env v = (do
      let ov ← holding [v] (eval o X.env)
      let iv ← holding [v, ov] (eval i X.env)
      standAt pos
      holding [v, ov, iv] (setItem ov iv v)
      release [v, ov, iv] []) := by intro _; rfl) : PG X (.Subscript o i pos) (gSub to ti t) := by
  intro pins s σ H v u Q I r h
  rw [ha]
  refine wpAny_bind (wpAny_holding (thn (ho pins s σ H _ I h) fun ov s1 ⟨x, H1, I1, r1, q1⟩ => ?_))
  refine wpAny_bind (wpAny_holding (thn (hi pins s1 σ H1 _ I1 q1) fun iv s2 ⟨y, H2, I2, r2, q2⟩ => ?_))
  refine wpAny_bind (wpAny_standAt (wpAny_bind (wpAny_holding (thn (hs pins s2 σ H2 x y v ov iv u _ I2 r1 r2 r q2) fun _ s3 ⟨H3, I3, q3⟩ => ?_))))
  exact wpAny_release ⟨σ, H3, I3, q3⟩
/-- target = value -/
def tAsg (te : TE) (g : TG) : TS := fun D σ H => te σ H fun x H1 => g x σ H1 D.nx
theorem ps_asg {tg e : Expr} {te : TE} {g : TG} (he : PE X e te) (hg : PG X tg g) (hs : swapsWithSole [tg] e pos.line X.env = pure false := by rfl) (hw : swappedStores [tg] e X.env = pure none := by rfl)
    (h1 : (assignEach [tg] X.env).map (·.2) = [assign tg X.env] := by rfl) : PS X (.Assign [tg] e pos) (tAsg te g) := by
  intro pins s σ H D I h
  refine wpAny_Assign_stores (thn (he pins s σ H _ I h) fun v s1 ⟨x, H1, I1, r1, q1⟩ => ?_) hs hw
  rw [h1]
  exact thn (hg pins s1 σ H1 x v _ I1 r1 q1) fun _ s2 q => q
/-- name = value -/
theorem ps_set {i : Nat} {x : Str} {e : Expr} {te : TE} {pos' : Pos} (hN : X.N.Nodup) (hi : X.N[i]? = some x) (hx : Loc X.env.scope x) (he : PE X e te) (hs : swapsWith e (some (.Name x pos')) pos.line X.env = pure false := by rfl) (hf : X.fn x = true ∨ X.env.scope.names.lookup x = some .local := by first | exact .inl rfl | exact .inr rfl | assumption) :
    PS X (.Assign [.Name x pos'] e pos) (tAsg te (gName i)) := by
  intro pins s σ H D I h
  refine wpAny_Assign_Name (thn (he pins s σ H _ I h) fun v s1 ⟨y, H1, I1, r1, q1⟩ => ?_) hs
  exact store_ok I1 hN hi hx r1 (fun s2 I2 => ⟨_, H1, I2, q1⟩) hf
end

/-! ### while -/
section
variable {X : Cx} {pos : Pos}
end

/-! ### what a loop or a comprehension walks -/
/-- at turn i: it yields x (the heap may grow), or it stops -/
structure It where
  go : Nat → Hp → Prop
  yld : Nat → Hp → V → Hp → Prop
  stop : Nat → Hp → Prop
/-- the iterator's own objects may turn: they are not the frame's, not pinned, younger than the entry (or a comprehension's own) -/
def FpOk (X : Cx) (pins : List (Addr × Obj)) (H : Hp) (b : Addr) : Prop :=
  H b = none ∧ b ≠ X.env.locals ∧ b ∉ X.fs ∧ (b ∈ X.ex ∨ X.s₀.heap.objs.size ≤ b) ∧ (∀ x c, X.env.cells.lookup x = some c → c ≠ b) ∧ ∀ p ∈ X.pn ++ pins, p.1 ≠ b
theorem Inv.fpOk {X : Cx} {pins : List (Addr × Obj)} {σ : St} {H H' : Hp} {s : Shared} {b : Addr} (I : Inv X pins σ H s) (hb : s.heap.objs.size ≤ b) (hn : H' b = none) : FpOk X pins H' b := by
  refine ⟨hn, Nat.ne_of_gt (Nat.lt_of_lt_of_le I.lt hb), I.nofs hb, .inr (Nat.le_trans I.sz hb), fun x c e z => ?_, fun p hp z => ?_⟩
  · obtain ⟨v, q⟩ := I.cell x c e
    exact absurd (Nat.lt_of_lt_of_le q.lt (by rw [z]; exact hb)) (Nat.lt_irrefl _)
  · exact absurd (Nat.lt_of_lt_of_le (Heap.lt_size (I.pin p hp).1) (by rw [z]; exact hb)) (Nat.lt_irrefl _)
structure Turn (P : Program) (w : World) (K : PySem.W.Frag) (tg : Expr) (J : It) (fp : List Addr) (it : Addr) (tn : Nat → Heap → Prop) : Prop where
  mem : it ∈ fp
  obj : ∀ i h, tn i h → ∀ b ∈ fp, ∃ o, h.get? b = some o ∧ ∀ v, o.data ≠ .cell v
  keep : ∀ i h h', tn i h → (∀ b ∈ fp, ∀ o, h.get? b = some o → h'.get? b = some o) → tn i h'
  item : ∀ (X : Cx), X.prog = P → X.w = w → X.K = K → X.calm = true → ∀ (i : Nat) (pins : List (Addr × Obj)) (s : Shared) (σ : St) (H : Hp) (E : Value → Shared → Prop), Inv X pins σ H s → (∀ b ∈ fp, FpOk X pins H b) → tn i s.heap → J.go i H →
    wpAny (model P w) X.A (pyNext (.ref it)) (fun r s1 => ∃ u, r = some u ∧
      wpAny (model P w) X.A (letOwnedTupleGo tg (.ref it) u) (fun _ s2 => ∃ x H', Inv X pins σ H' s2 ∧ RelV x u ∧ J.yld i H x H' ∧ tn (i + 1) s2.heap ∧ ∀ b ∈ fp, H' b = none) E s1) E s
  done : ∀ (X : Cx), X.prog = P → X.w = w → X.K = K → X.calm = true → ∀ (i : Nat) (pins : List (Addr × Obj)) (s : Shared) (σ : St) (H : Hp) (E : Value → Shared → Prop), Inv X pins σ H s → (∀ b ∈ fp, FpOk X pins H b) → tn i s.heap → J.stop i H →
    wpAny (model P w) X.A (pyNext (.ref it)) (fun r s1 => r = none ∧ Inv X pins σ H s1) E s
  self : ∀ (A : Around) (i : Nat) (s : Shared) (Q : Value → Shared → Prop) (E : Value → Shared → Prop), tn i s.heap → Q (.ref it) s → wpAny (model P w) A (pyIter (.ref it)) Q E s
abbrev TI := St → Hp → (It → Hp → Prop) → Prop
/-- an iterator has come -/
def PIE (X : Cx) (pins : List (Addr × Obj)) (σ : St) (tg : Expr) (R : It → Hp → Prop) (itv : Value) (s2 : Shared) : Prop :=
  ∃ (it : Addr) (fp : List Addr) (tn : Nat → Heap → Prop) (J : It) (H' : Hp), itv = .ref it ∧ Inv X pins σ H' s2 ∧ Turn X.prog X.w X.K tg J fp it tn ∧ tn 0 s2.heap ∧ (∀ b ∈ fp, FpOk X pins H' b) ∧ R J H'
def PI (X : Cx) (tg iter : Expr) (wi : TI) : Prop :=
  ∀ (pins : List (Addr × Obj)) (s : Shared) (σ : St) (H : Hp) (R : It → Hp → Prop), Inv X pins σ H s → wi σ H R →
    wpAny (model X.prog X.w) X.A (eval iter X.env) (fun v s1 => wpAny (model X.prog X.w) X.A (pyIter v) (PIE X pins σ tg R) X.xe s1) X.xe s

/-- the step ahead of the store is nothing for an iterator that keeps no tuple -/
theorem go_of {M : Model} {A : Around} {E : Value → Shared → Prop} {s : Shared} {tg : Expr} {it : Addr} {u : Value} {o : Obj} {n : String} {vs : Array Value} {Q : Unit → Shared → Prop} (ho : s.heap.get? it = some o) (hc : o.cls = .type n) (hd : o.data = .fields vs)
    (hn : ["enumerate", "zip", "dict_itemiterator", "dict_reverseitemiterator", "odict_iterator", "itertools.zip_longest", "itertools.pairwise"].contains n = false) (hQ : Q () s) : wpAny M A (letOwnedTupleGo tg (.ref it) u) Q E s := by
  unfold letOwnedTupleGo
  cases tg <;> first
    | exact wpAny_pure hQ
    | (cases u <;> first
        | exact wpAny_pure hQ
        | (refine wpAny_bind (wpAny_load ho ?_)
           rw [hc, hd]
           show wpAny M A (if (["enumerate", "zip", "dict_itemiterator", "dict_reverseitemiterator", "odict_iterator", "itertools.zip_longest", "itertools.pairwise"].contains n && vs[0]? == some (rawInt _)) = true then _ else _) Q E s
           rw [if_neg (by intro h; rw [hn, Bool.false_and] at h; cases h)]
           exact wpAny_pure hQ))

/-- the list at a, as it stands at each turn (a loop may append to it) -/
def Itl (K : PySem.W.Frag) (a : Addr) : It :=
  ⟨fun i H => ∃ xs x, SqL K H a xs ∧ xs[i]? = some x, fun i H x H' => H' = H ∧ ∀ xs, SqL K H a xs → xs[i]? = some x, fun i H => ∃ xs, SqL K H a xs ∧ xs.length ≤ i⟩
def Itt (K : PySem.W.Frag) (a : Addr) : It :=
  ⟨fun i H => ∃ xs x, SqT K H a xs ∧ xs[i]? = some x, fun i H x H' => H' = H ∧ ∀ xs, SqT K H a xs → xs[i]? = some x, fun i H => ∃ xs, SqT K H a xs ∧ xs.length ≤ i⟩
/-- lo, lo + 1, .. (n of them) -/
def Itr (lo : Int) (n : Nat) : It := ⟨fun i _ => i < n, fun i H x H' => H' = H ∧ x = .int (lo + i), fun i _ => n ≤ i⟩
theorem turn_list {P : Program} {w : World} {K : PySem.W.Frag} {tg : Expr} (a it : Addr) : Turn P w K tg (Itl K a) [it] it (fun i h => h.IsListIter it a i) where
  mem := by simp
  obj := fun i h st b hb => by
    have e : b = it := by simpa using hb
    subst e
    obtain ⟨o, e, c, d⟩ := st
    exact ⟨o, e, fun v z => by rw [d] at z; cases z⟩
  keep := fun i h h' st k => st.at fun o e => k it (by simp) o e
  item := by
    intro X hP hw hK hc i pins s σ H E I hf st hg
    subst hP hw hK
    obtain ⟨xs, x, hq, hx⟩ := hg
    obtain ⟨its, rv, p, hz⟩ := I.list hq
    obtain ⟨u, hu, ru⟩ := rv.get hx
    obtain ⟨f0, f1, f2, f3, f4, f5⟩ := hf it (by simp)
    refine wpAny_pyNext_list_item st p.isList (x := u) (by simpa using hu) fun h' st' sb => ?_
    have I1 : Inv X pins σ H { s with heap := h' } := I.turned (t' := s.toks) (fun b o hb e => (sb.2 b hb).trans e) f0 f1 f3 f4 f5
    obtain ⟨o, e, c, d⟩ := id st'
    exact ⟨u, rfl, go_of (s := { s with heap := h' }) e c d (by decide) ⟨x, H, I1, ru, ⟨rfl, fun ys hy => by rw [I.list_inj hy hq]; exact hx⟩, st', fun b hb => (hf b hb).1⟩⟩
  done := by
    intro X hP hw hK hc i pins s σ H E I hf st hg
    subst hP hw hK
    obtain ⟨xs, hq, hx⟩ := hg
    obtain ⟨its, rv, p, hz⟩ := I.list hq
    obtain ⟨f0, f1, f2, f3, f4, f5⟩ := hf it (by simp)
    have hl := rv.length
    exact wpAny_pyNext_list_end (I.ok.hd hc) st p.isList (by simp; omega) fun h' eb => ⟨rfl, I.turned (t' := s.toks) (fun b o hb e => eb b o hb e) f0 f1 f3 f4 f5⟩
  self := fun _ _ _ _ _ st h => wpAny_pyIter_listiter st h
theorem turn_tuple {P : Program} {w : World} {K : PySem.W.Frag} {tg : Expr} (a it : Addr) : Turn P w K tg (Itt K a) [it] it (fun i h => h.IsTupleIter it a i) where
  mem := by simp
  obj := fun i h st b hb => by
    have e : b = it := by simpa using hb
    subst e
    obtain ⟨o, e, c, d⟩ := st
    exact ⟨o, e, fun v z => by rw [d] at z; cases z⟩
  keep := fun i h h' st k => st.at fun o e => k it (by simp) o e
  item := by
    intro X hP hw hK hc i pins s σ H E I hf st hg
    subst hP hw hK
    obtain ⟨xs, x, hq, hx⟩ := hg
    obtain ⟨its, rv, p, hz⟩ := I.tuple hq
    obtain ⟨u, hu, ru⟩ := rv.get hx
    obtain ⟨f0, f1, f2, f3, f4, f5⟩ := hf it (by simp)
    refine wpAny_pyNext_tuple_item st (show s.heap.IsTuple a its.toArray from p) (x := u) (by simpa using hu) fun h' st' sb => ?_
    have I1 : Inv X pins σ H { s with heap := h' } := I.turned (t' := s.toks) (fun b o hb e => (sb.2 b hb).trans e) f0 f1 f3 f4 f5
    obtain ⟨o, e, c, d⟩ := id st'
    exact ⟨u, rfl, go_of (s := { s with heap := h' }) e c d (by decide) ⟨x, H, I1, ru, ⟨rfl, fun ys hy => by rw [I.tuple_inj hy hq]; exact hx⟩, st', fun b hb => (hf b hb).1⟩⟩
  done := by
    intro X hP hw hK hc i pins s σ H E I hf st hg
    subst hP hw hK
    obtain ⟨xs, hq, hx⟩ := hg
    obtain ⟨its, rv, p, hz⟩ := I.tuple hq
    obtain ⟨f0, f1, f2, f3, f4, f5⟩ := hf it (by simp)
    have hl := rv.length
    exact wpAny_pyNext_tuple_end (I.ok.hd hc) st (show s.heap.IsTuple a its.toArray from p) (by simp; omega) fun h' eb => ⟨rfl, I.turned (t' := s.toks) (fun b o hb e => eb b o hb e) f0 f1 f3 f4 f5⟩
  self := fun _ _ _ _ _ st h => wpAny_pyIter_tupleiter st h
theorem turn_range {P : Program} {w : World} {K : PySem.W.Frag} {tg : Expr} (it : Addr) (lo : Int) (n : Nat) : Turn P w K tg (Itr lo n) [it] it (fun i h => IsRangeIter h it (lo + (i : Nat) * 1) ((n : Int) - (i : Nat)) 1) where
  mem := by simp
  obj := fun i h st b hb => by
    have e : b = it := by simpa using hb
    subst e
    exact ⟨_, st, fun v z => by
      have z' : Data.fields _ = Data.cell v := z
      cases z'⟩
  keep := fun i h h' st k => k it (by simp) _ st
  item := by
    intro X hP hw hK hc i pins s σ H E I hf st hg
    subst hP hw hK
    obtain ⟨f0, f1, f2, f3, f4, f5⟩ := hf it (by simp)
    have W := Walks.range (prog := X.prog) (w := X.w) (I.ok.hd hc) it lo 1 n
    refine W.item i s _ _ hg st fun v h' tk hv st' kk => ?_
    obtain ⟨t, rfl⟩ := hv
    have I1 : Inv X pins σ H { s with heap := h', toks := tk } := I.turned (fun b o hb e => kk b o (by simpa using hb) e) f0 f1 f3 f4 f5
    refine ⟨_, rfl, go_of (s := { s with heap := h', toks := tk }) (n := "range_iterator") st' rfl rfl (by decide) ⟨.int (lo + i), H, I1, ⟨t, ?_⟩, ⟨rfl, rfl⟩, st', fun b hb => (hf b hb).1⟩⟩
    rw [Int.mul_one]
  done := by
    intro X hP hw hK hc i pins s σ H E I hf st hg
    subst hP hw hK
    obtain ⟨f0, f1, f2, f3, f4, f5⟩ := hf it (by simp)
    exact wpAny_pyNext_range_end (I.ok.hd hc) st (by have : n ≤ i := hg; omega) fun h' eb => ⟨rfl, I.turned (t' := s.toks) (fun b o hb e => eb b o hb e) f0 f1 f3 f4 f5⟩
  self := fun _ _ _ _ _ st h => wpAny_pyIter_rangeiter st h
end L2

namespace L2
open PySem PySem.Spec PyProof.Rows
section
variable {X : Cx} {tg : Expr}
/-- a range object just made, walked -/
theorem range_it {pins : List (Addr × Obj)} {σ : St} {H : Hp} {s : Shared} {R : It → Hp → Prop} {E : Value → Shared → Prop} {lo hi : Int} {t u v : Tok} {tk : Nat} (I : Inv X pins σ H s) (h1 : -(2 ^ 62) ≤ lo) (h2 : lo < 2 ^ 62) (h3 : -(2 ^ 62) ≤ hi) (h4 : hi < 2 ^ 62)
    (q : R (Itr lo (hi - lo).toNat) H) : wpAny (model X.prog X.w) X.A (pyIter (.ref s.heap.objs.size)) (PIE X pins σ tg R) E { s with heap := s.heap.push { cls := .type "range", data := .fields #[.int lo t, .int hi u, .int 1 v] }, toks := tk } := by
  refine wpAny_pyIter_range (IsRange.new ..) (small_one h1 h2 h3 h4) ?_
  have I1 : Inv X pins σ H { s with heap := s.heap.push { cls := .type "range", data := .fields #[.int lo t, .int hi u, .int 1 v] }, toks := tk } := I.kept fun b o e => Heap.get?_push_of_some _ e
  refine ⟨(s.heap.push { cls := .type "range", data := .fields #[.int lo t, .int hi u, .int 1 v] }).objs.size, [(s.heap.push { cls := .type "range", data := .fields #[.int lo t, .int hi u, .int 1 v] }).objs.size], _, _, H, rfl,
    I1.kept (t' := tk) fun b o e => Heap.get?_push_of_some _ e, turn_range _ lo (hi - lo).toNat, ?_, fun b hb => ?_, q⟩
  · have e1 : lo + ((0 : Nat) : Int) * 1 = lo := by simp
    have e2 : (((hi - lo).toNat : Nat) : Int) - ((0 : Nat) : Int) = Builtin.Range.rangeSize lo hi 1 := by rw [rangeSize_one]; split <;> omega
    show IsRangeIter _ _ (lo + ((0 : Nat) : Int) * 1) ((((hi - lo).toNat : Nat) : Int) - ((0 : Nat) : Int)) 1
    rw [e1, e2]
    exact Heap.get?_push_size _ rfl
  · have e : b = (s.heap.push { cls := .type "range", data := .fields #[.int lo t, .int hi u, .int 1 v] }).objs.size := by simpa using hb
    subst e
    exact I1.fpOk (Nat.le_refl _) (I1.hok.fresh (Nat.le_refl _))
/-! ### for -/
/-- W: the invariant by the turn and a measure; N: what the body is to reach -/
def tFor (wi : TI) (g : TG) (tb : TS) : TS := fun D σ H => wi σ H fun J H1 => ∃ W : Nat → Nat → St → Hp → Prop, (∃ m, W 0 m σ H1) ∧ ∀ i m σ H, W i m σ H →
  (J.stop i H ∧ D.nx σ H) ∨ (J.go i H ∧ ∃ N : St → Hp → Prop, (∀ σ' H', N σ' H' → ∃ m', m' < m ∧ W (i + 1) m' σ' H') ∧ ∀ x H', J.yld i H x H' → g x σ H' fun σ2 H2 => tb { D with nx := N, ct := N, bk := D.nx } σ2 H2)
/-- the records at fp as they stand -/
def pinsAt (fp : List Addr) (h : Heap) : List (Addr × Obj) := fp.filterMap fun b => (h.get? b).map fun o => (b, o)
theorem mem_pinsAt {fp : List Addr} {h : Heap} {b : Addr} {o : Obj} (hb : b ∈ fp) (e : h.get? b = some o) : (b, o) ∈ pinsAt fp h := List.mem_filterMap.mpr ⟨b, hb, by rw [e]; rfl⟩
theorem of_pinsAt {fp : List Addr} {h : Heap} {p : Addr × Obj} (hp : p ∈ pinsAt fp h) : p.1 ∈ fp ∧ h.get? p.1 = some p.2 := by
  obtain ⟨b, hb, e⟩ := List.mem_filterMap.mp hp
  cases q : h.get? b with
  | none => rw [q] at e; cases e
  | some o =>
    rw [q] at e
    have e' : (b, o) = p := Option.some.inj e
    subst e'
    exact ⟨hb, q⟩
theorem Inv.pinned {pins : List (Addr × Obj)} {σ : St} {H : Hp} {s : Shared} {fp : List Addr} (I : Inv X pins σ H s) (hf : ∀ b ∈ fp, FpOk X pins H b) (ho : ∀ b ∈ fp, ∃ o, s.heap.get? b = some o ∧ ∀ v, o.data ≠ .cell v) : Inv X (pins ++ pinsAt fp s.heap) σ H s :=
  I.pins_of fun p hp => (List.mem_append.mp hp).elim (fun z => I.pin p (List.mem_append_right _ z)) fun z => by
    obtain ⟨hb, e⟩ := of_pinsAt z
    obtain ⟨f0, f1, f2, _⟩ := hf p.1 hb
    obtain ⟨o, e', d⟩ := ho p.1 hb
    rw [e] at e'; cases e'
    exact ⟨e, f0, f1, f2, d⟩
theorem Inv.unpinned {pins pl : List (Addr × Obj)} {σ : St} {H : Hp} {s : Shared} (I : Inv X (pins ++ pl) σ H s) : Inv X pins σ H s := I.pins_of fun p hp => I.pin p (List.mem_append_right _ (List.mem_append_left _ hp))
theorem ps_for {iter : Expr} {body : List Stmt} {wi : TI} {g : TG} {tb : TS} {pos : Pos} (hp : PassesOwn (model X.prog X.w) X.A X.env X.xe) (hc : X.calm = true) (hi : PI X tg iter wi) (hg : PG X tg g) (hb : PSs X body tb)
    (hs : ∀ x, foldedSetIterable iter X.env x = pure x := by intro _; rfl) : PS X (.For tg iter body [] pos) (tFor wi g tb) := by
  intro pins s σ H D I h
  refine wpAny_For (thn (hi pins s σ H _ I h) fun v s1 h1 => thn h1 fun itv s2 h2 => ?_) hs
  obtain ⟨it, fp, tn, J, H2, e, I2, T, st2, f2, W, ⟨m0, w0⟩, turn⟩ := h2
  subst e
  -- what stays true of the iterator's objects through the loop
  have stat : ∀ {H' : Hp}, (∀ b ∈ fp, H' b = none) → ∀ b ∈ fp, FpOk X pins H' b := fun hn b hb => ⟨hn b hb, (f2 b hb).2⟩
  refine codeAny_forLoop_any (fun n s' => ∃ i σ' H', Inv X pins σ' H' s' ∧ tn i s'.heap ∧ (∀ b ∈ fp, H' b = none) ∧ W i n σ' H') ?_ m0 ⟨0, σ, H2, I2, st2, fun b hb => (f2 b hb).1, w0⟩
  rintro n s3 ⟨i, σ3, H3, I3, st3, fr3, w3⟩
  rcases turn i n σ3 H3 w3 with ⟨stop, qn⟩ | ⟨go, N, hN, step⟩
  · refine wpAny_passesOwn hp (thn (T.done X rfl rfl rfl hc i pins s3 σ3 H3 X.xe I3 (stat fr3) st3 stop) fun r s4 ⟨hr, I4⟩ => ?_)
    subst hr
    exact wpAny_execs_nil ⟨σ3, H3, I4, qn⟩
  · refine wpAny_passesOwn hp (thn (T.item X rfl rfl rfl hc i pins s3 σ3 H3 X.xe I3 (stat fr3) st3 go) fun r s4 ⟨u, hr, h4⟩ => ?_)
    subst hr
    refine wpAny_passesOwn hp (thn h4 fun _ s5 ⟨x, H5, I5, r5, y5, st5, fr5⟩ => ?_)
    have I5' := I5.pinned (stat fr5) (T.obj _ _ st5)
    refine wpAny_passesOwn hp (thn (hg _ s5 σ3 H5 x u _ I5' r5 (step x H5 y5)) fun _ s6 ⟨σ6, H6, I6, q6⟩ => ?_)
    refine wpAny_passesOwn hp (thn (hb _ s6 σ6 H6 _ I6 q6) fun f s7 q7 => ?_)
    have again : ∀ {σ7 : St} {H7 : Hp}, Inv X (pins ++ pinsAt fp s5.heap) σ7 H7 s7 → N σ7 H7 → ∃ m, m < n ∧ ∃ i σ' H', Inv X pins σ' H' s7 ∧ tn i s7.heap ∧ (∀ b ∈ fp, H' b = none) ∧ W i m σ' H' := fun {σ7 H7} I7 n7 => by
      obtain ⟨m', hm, w7⟩ := hN σ7 H7 n7
      refine ⟨m', hm, i + 1, σ7, H7, I7.unpinned, T.keep _ _ _ st5 fun b hb o e => (I7.pin (b, o) (List.mem_append_right _ (List.mem_append_right _ (mem_pinsAt hb e)))).1, fun b hb => ?_, w7⟩
      obtain ⟨o, e, d⟩ := T.obj _ _ st5 b hb
      exact (I7.pin (b, o) (List.mem_append_right _ (List.mem_append_right _ (mem_pinsAt hb e)))).2.1
    cases f with
    | next => obtain ⟨σ7, H7, I7, n7⟩ := q7; exact again I7 n7
    | cont => obtain ⟨σ7, H7, I7, n7⟩ := q7; exact again I7 n7
    | brk => obtain ⟨σ7, H7, I7, q7⟩ := q7; exact ⟨σ7, H7, I7.unpinned, q7⟩
    | ret v => obtain ⟨x7, σ7, H7, I7, r7, q7⟩ := q7; exact ⟨x7, σ7, H7, I7.unpinned, r7, q7⟩
end

/-! ### the forms one uses -/
/-- over a list that the body leaves as it is -/
theorem for_list {K : PySem.W.Frag} {a : Addr} {xs : List V} {g : TG} {tb : TS} {D : Ends} {σ : St} {H : Hp} (Pv : Nat → St → Hp → Prop) (h0 : Pv 0 σ H) (hl : ∀ i σ H, i ≤ xs.length → Pv i σ H → SqL K H a xs)
    (hs : ∀ i x σ H, xs[i]? = some x → Pv i σ H → g x σ H fun σ2 H2 => tb { D with nx := Pv (i + 1), ct := Pv (i + 1), bk := D.nx } σ2 H2) (hd : ∀ σ H, Pv xs.length σ H → D.nx σ H) :
    ∃ W : Nat → Nat → St → Hp → Prop, (∃ m, W 0 m σ H) ∧ ∀ i m σ H, W i m σ H →
      ((Itl K a).stop i H ∧ D.nx σ H) ∨ ((Itl K a).go i H ∧ ∃ N : St → Hp → Prop, (∀ σ' H', N σ' H' → ∃ m', m' < m ∧ W (i + 1) m' σ' H') ∧ ∀ x H', (Itl K a).yld i H x H' → g x σ H' fun σ2 H2 => tb { D with nx := N, ct := N, bk := D.nx } σ2 H2) := by
  refine ⟨fun i m σ H => m = xs.length - i ∧ i ≤ xs.length ∧ Pv i σ H, ⟨xs.length, by simp, Nat.zero_le _, h0⟩, ?_⟩
  rintro i m σ H ⟨rfl, hi, p⟩
  have q := hl i σ H hi p
  by_cases hlt : i < xs.length
  · refine .inr ⟨⟨xs, xs[i], q, by simp [hlt]⟩, Pv (i + 1), fun σ' H' p' => ⟨xs.length - (i + 1), by omega, rfl, hlt, p'⟩, fun x H' y => ?_⟩
    obtain ⟨e, y⟩ := y
    subst e
    exact hs i x σ _ (y xs q) p
  · have e : i = xs.length := by omega
    subst e
    exact .inl ⟨⟨xs, q, Nat.le_refl _⟩, hd σ H p⟩
theorem for_tup {K : PySem.W.Frag} {a : Addr} {xs : List V} {g : TG} {tb : TS} {D : Ends} {σ : St} {H : Hp} (Pv : Nat → St → Hp → Prop) (h0 : Pv 0 σ H) (hl : ∀ i σ H, i ≤ xs.length → Pv i σ H → SqT K H a xs)
    (hs : ∀ i x σ H, xs[i]? = some x → Pv i σ H → g x σ H fun σ2 H2 => tb { D with nx := Pv (i + 1), ct := Pv (i + 1), bk := D.nx } σ2 H2) (hd : ∀ σ H, Pv xs.length σ H → D.nx σ H) :
    ∃ W : Nat → Nat → St → Hp → Prop, (∃ m, W 0 m σ H) ∧ ∀ i m σ H, W i m σ H →
      ((Itt K a).stop i H ∧ D.nx σ H) ∨ ((Itt K a).go i H ∧ ∃ N : St → Hp → Prop, (∀ σ' H', N σ' H' → ∃ m', m' < m ∧ W (i + 1) m' σ' H') ∧ ∀ x H', (Itt K a).yld i H x H' → g x σ H' fun σ2 H2 => tb { D with nx := N, ct := N, bk := D.nx } σ2 H2) := by
  refine ⟨fun i m σ H => m = xs.length - i ∧ i ≤ xs.length ∧ Pv i σ H, ⟨xs.length, by simp, Nat.zero_le _, h0⟩, ?_⟩
  rintro i m σ H ⟨rfl, hi, p⟩
  have q := hl i σ H hi p
  by_cases hlt : i < xs.length
  · refine .inr ⟨⟨xs, xs[i], q, by simp [hlt]⟩, Pv (i + 1), fun σ' H' p' => ⟨xs.length - (i + 1), by omega, rfl, hlt, p'⟩, fun x H' y => ?_⟩
    obtain ⟨e, y⟩ := y
    subst e
    exact hs i x σ _ (y xs q) p
  · have e : i = xs.length := by omega
    subst e
    exact .inl ⟨⟨xs, q, Nat.le_refl _⟩, hd σ H p⟩
theorem for_range {lo : Int} {n : Nat} {g : TG} {tb : TS} {D : Ends} {σ : St} {H : Hp} (Pv : Nat → St → Hp → Prop) (h0 : Pv 0 σ H)
    (hs : ∀ i σ H, i < n → Pv i σ H → g (.int (lo + i)) σ H fun σ2 H2 => tb { D with nx := Pv (i + 1), ct := Pv (i + 1), bk := D.nx } σ2 H2) (hd : ∀ σ H, Pv n σ H → D.nx σ H) :
    ∃ W : Nat → Nat → St → Hp → Prop, (∃ m, W 0 m σ H) ∧ ∀ i m σ H, W i m σ H →
      ((Itr lo n).stop i H ∧ D.nx σ H) ∨ ((Itr lo n).go i H ∧ ∃ N : St → Hp → Prop, (∀ σ' H', N σ' H' → ∃ m', m' < m ∧ W (i + 1) m' σ' H') ∧ ∀ x H', (Itr lo n).yld i H x H' → g x σ H' fun σ2 H2 => tb { D with nx := N, ct := N, bk := D.nx } σ2 H2) := by
  refine ⟨fun i m σ H => m = n - i ∧ i ≤ n ∧ Pv i σ H, ⟨n, by simp, Nat.zero_le _, h0⟩, ?_⟩
  rintro i m σ H ⟨rfl, hi, p⟩
  by_cases hlt : i < n
  · refine .inr ⟨hlt, Pv (i + 1), fun σ' H' p' => ⟨n - (i + 1), by omega, rfl, hlt, p'⟩, fun x H' y => ?_⟩
    obtain ⟨e, y⟩ := y
    subst e y
    exact hs i σ _ hlt p
  · have e : i = n := by omega
    subst e
    exact .inl ⟨Nat.le_refl _, hd σ H p⟩
end L2

namespace L2
open PySem PySem.Spec PyProof.Rows

abbrev R2 := V → V → Hp → VK → Prop
/-- a two-place operation on values: f is binaryOp op, inplaceOp op or compareOp op -/
def OpR (X : Cx) (f : Value → Value → Sem Value) (r : R2) : Prop :=
  ∀ (pins : List (Addr × Obj)) (s : Shared) (σ : St) (H : Hp) (x y : V) (v u : Value) (Q : VK), Inv X pins σ H s → RelV x v → RelV y u → r x y H Q →
    wpAny (model X.prog X.w) X.A (f v u) (EP X pins σ Q) X.xe s
/-- a one-place operation -/
def UnR (X : Cx) (f : Value → Sem Value) (r : V → Hp → VK → Prop) : Prop :=
  ∀ (pins : List (Addr × Obj)) (s : Shared) (σ : St) (H : Hp) (x : V) (v : Value) (Q : VK), Inv X pins σ H s → RelV x v → r x H Q →
    wpAny (model X.prog X.w) X.A (f v) (EP X pins σ Q) X.xe s
/-- a call of a value that is known (a builtin, a type) with values -/
def CallR (X : Cx) (f : Value) (r : List V → Hp → VK → Prop) : Prop :=
  ∀ (pins : List (Addr × Obj)) (s : Shared) (σ : St) (H : Hp) (xs : List V) (us : List Value) (Q : VK), Inv X pins σ H s → Vals xs us → r xs H Q →
    wpAny (model X.prog X.w) X.A (call f us) (EP X pins σ Q) X.xe s
/-- a value's truth -/
def TruR (X : Cx) (r : V → Hp → (Bool → Hp → Prop) → Prop) : Prop :=
  ∀ (pins : List (Addr × Obj)) (s : Shared) (σ : St) (H : Hp) (x : V) (v : Value) (Q : Bool → Hp → Prop), Inv X pins σ H s → RelV x v → r x H Q →
    wpAny (model X.prog X.w) X.A (truthy v) (TP X pins σ Q) X.xe s

def tOp (r : R2) (ta tb : TE) : TE := fun σ H Q => ta σ H fun x H1 => tb σ H1 fun y H2 => r x y H2 Q
def tUn (r : V → Hp → VK → Prop) (ta : TE) : TE := fun σ H Q => ta σ H fun x H1 => r x H1 Q
/-- ints in, under C, and a value out -/
def rI (C : Int → Int → Prop) (g : Int → Int → V) : R2 := fun x y H Q => ∃ i j, x = .int i ∧ y = .int j ∧ C i j ∧ Q (g i j) H
def rI0 (g : Int → Int → V) : R2 := fun x y H Q => ∃ i j, x = .int i ∧ y = .int j ∧ Q (g i j) H
def rU (g : Int → V) : V → Hp → VK → Prop := fun x H Q => ∃ i, x = .int i ∧ Q (g i) H

section
variable {X : Cx} {a b c : Expr} {ta tb tc : TE} {pos : Pos}

theorem binT (ha : PE X a ta) (hb : PE X b tb) {pins : List (Addr × Obj)} {s : Shared} {σ : St} {H : Hp} {R : V → V → Hp → Prop} (I : Inv X pins σ H s)
    (h : ta σ H fun x H1 => tb σ H1 fun y H2 => R x y H2) {Q : Value → Shared → Prop} {f : Value → Value → Sem Value}
    (hf : ∀ v u s2 x y H2, Inv X pins σ H2 s2 → RelV x v → RelV y u → R x y H2 → wpAny (model X.prog X.w) X.A (f v u) Q X.xe s2) :
    wpAny (model X.prog X.w) X.A (eval a X.env) (fun v s₁ => wpAny (model X.prog X.w) X.A (eval b X.env) (fun u s₂ => wpAny (model X.prog X.w) X.A (f v u) Q X.xe s₂) X.xe s₁) X.xe s := by
  refine thn (ha pins s σ H _ I h) fun v s1 ⟨x, H1, I1, r1, q1⟩ => ?_
  refine thn (hb pins s1 σ H1 _ I1 q1) fun u s2 ⟨y, H2, I2, r2, q2⟩ => ?_
  exact hf v u s2 x y H2 I2 r1 r2 q2

theorem pe_op {op : Operator} {r : R2} (ho : OpR X (binaryOp op) r) (ha : PE X a ta) (hb : PE X b tb) : PE X (.BinOp a op b pos) (tOp r ta tb) := by
  intro pins s σ H Q I h
  exact wpAny_BinOp (binT ha hb I h fun v u s2 x y H2 I2 rx ry q => ho pins s2 σ H2 x y v u Q I2 rx ry q)
theorem pe_un {op : UnaryOp} {r : V → Hp → VK → Prop} (ho : UnR X (unaryOp op) r) (ha : PE X a ta) : PE X (.UnaryOp op a pos) (tUn r ta) := by
  intro pins s σ H Q I h
  exact UnaryOp_ (thn (ha pins s σ H _ I h) fun v s1 ⟨x, H1, I1, r1, q1⟩ => ho pins s1 σ H1 x v Q I1 r1 q1)
/-! ### ints -/
theorem opI {f : Value → Value → Sem Value} {C : Int → Int → Prop} {g : Int → Int → Int}
    (rule : ∀ (i j : Int) (t u : Tok) (s : Shared) (Q : Value → Shared → Prop) (E : Value → Shared → Prop), C i j → Q (.int (g i j) s.toks) { s with toks := s.toks + 1 } → wpAny (model X.prog X.w) X.A (f (.int i t) (.int j u)) Q E s) :
    OpR X f (rI C fun i j => .int (g i j)) := by
  intro pins s σ H x y v u Q I rx ry h
  obtain ⟨i, j, rfl, rfl, hc, q⟩ := h
  obtain ⟨t, rfl⟩ := rx
  obtain ⟨t', rfl⟩ := ry
  exact rule i j t t' s _ _ hc ⟨.int (g i j), H, I.tok _, ⟨_, rfl⟩, q⟩
theorem opI0 {f : Value → Value → Sem Value} {g : Int → Int → Int}
    (rule : ∀ (i j : Int) (t u : Tok) (s : Shared) (Q : Value → Shared → Prop) (E : Value → Shared → Prop), Q (.int (g i j) s.toks) { s with toks := s.toks + 1 } → wpAny (model X.prog X.w) X.A (f (.int i t) (.int j u)) Q E s) :
    OpR X f (rI0 fun i j => .int (g i j)) := by
  intro pins s σ H x y v u Q I rx ry h
  obtain ⟨i, j, rfl, rfl, q⟩ := h
  obtain ⟨t, rfl⟩ := rx
  obtain ⟨t', rfl⟩ := ry
  exact rule i j t t' s _ _ ⟨.int (g i j), H, I.tok _, ⟨_, rfl⟩, q⟩
theorem opB0 {f : Value → Value → Sem Value} {g : Int → Int → Bool}
    (rule : ∀ (i j : Int) (t u : Tok) (s : Shared) (Q : Value → Shared → Prop) (E : Value → Shared → Prop), Q (.bool (g i j)) s → wpAny (model X.prog X.w) X.A (f (.int i t) (.int j u)) Q E s) :
    OpR X f (rI0 fun i j => .bl (g i j)) := by
  intro pins s σ H x y v u Q I rx ry h
  obtain ⟨i, j, rfl, rfl, q⟩ := h
  obtain ⟨t, rfl⟩ := rx
  obtain ⟨t', rfl⟩ := ry
  exact rule i j t t' s _ _ ⟨.bl (g i j), H, I, rfl, q⟩

def CPow (i j : Int) : Prop := 0 ≤ j ∧ j ≤ 1000000 ∧ i.natAbs < 2 ^ 64
theorem op_add : OpR X (binaryOp .Add) (rI0 fun i j => .int (i + j)) := opI0 fun _ _ _ _ _ _ _ q => add_int q
theorem op_sub : OpR X (binaryOp .Sub) (rI0 fun i j => .int (i - j)) := opI0 fun _ _ _ _ _ _ _ q => sub_int q
theorem op_modN : OpR X (binaryOp .Mod) (rI (fun _ j => j ≠ 0) fun i j => .int (i.fmod j)) := opI fun _ _ _ _ _ _ _ hc q => mod_int' hc q
theorem op_pow : OpR X (binaryOp .Pow) (rI CPow fun i j => .int (i ^ j.toNat)) := opI fun _ _ _ _ _ _ _ hc q => pow_int_small hc.1 hc.2.1 hc.2.2 q
theorem unI {f : Value → Sem Value} {g : Int → Int}
    (rule : ∀ (i : Int) (t : Tok) (s : Shared) (Q : Value → Shared → Prop) (E : Value → Shared → Prop), Q (.int (g i) s.toks) { s with toks := s.toks + 1 } → wpAny (model X.prog X.w) X.A (f (.int i t)) Q E s) :
    UnR X f (rU fun i => .int (g i)) := by
  intro pins s σ H x v Q I rx h
  obtain ⟨i, rfl, q⟩ := h
  obtain ⟨t, rfl⟩ := rx
  exact rule i t s _ _ ⟨.int (g i), H, I.tok _, ⟨_, rfl⟩, q⟩
theorem un_neg : UnR X (unaryOp .USub) (rU fun i => .int (-i)) := unI fun _ _ _ _ _ q => neg_int q
/-! ### bools among ints: n += (a < b) -/
end

/-! ### comparisons -/
/-- the scalars that == tells apart as data does -/
def scal : V → V → Bool
  | .non, .non => true | .non, .int _ => true | .int _, .non => true | .non, .bl _ => true | .bl _, .non => true | .non, .str _ => true | .str _, .non => true
  | .int _, .int _ => true | .bl _, .bl _ => true | .str _, .str _ => true | .byt _, .byt _ => true
  | .int _, .str _ => true | .str _, .int _ => true | .bl _, .str _ => true | .str _, .bl _ => true
  | _, _ => false
def rEq : R2 := fun x y H Q => scal x y = true ∧ Q (.bl (decide (x = y))) H
def rNe : R2 := fun x y H Q => scal x y = true ∧ Q (.bl (!decide (x = y))) H

theorem dec_int {i j : Int} : decide (V.int i = V.int j) = (i == j) := by
  rw [Bool.eq_iff_iff]
  simp
theorem dec_bl {i j : Bool} : decide (V.bl i = V.bl j) = (i == j) := by
  rw [Bool.eq_iff_iff]
  simp
theorem dec_str {i j : Str} : decide (V.str i = V.str j) = (i == j) := by
  rw [Bool.eq_iff_iff]
  simp
theorem dec_byt {i j : Array UInt8} : decide (V.byt i = V.byt j) = (i.toList == j.toList) := by
  rw [Bool.eq_iff_iff]
  cases i
  cases j
  simp

section
variable {X : Cx} {a b c : Expr} {ta tb tc : TE} {pos : Pos}
theorem fin_bl {pins : List (Addr × Obj)} {σ : St} {H : Hp} {s : Shared} {Q : VK} {k k' : Bool} (I : Inv X pins σ H s) (q : Q (.bl k) H) (e : k = k') : EP X pins σ Q (.bool k') s := by
  subst e
  exact ⟨.bl k, H, I, rfl, q⟩
theorem op_eq : OpR X (compareOp .Eq) rEq := by
  intro pins s σ H x y v u Q I rx ry h
  obtain ⟨hs, q⟩ := h
  cases x with
  | non =>
    cases rx
    cases y with
    | non => cases ry; exact PySem.EqNone.eq_none_none (fin_bl I q (by simp))
    | bl j => cases ry; exact PySem.EqNone.eq_none_bool (fin_bl I q (by simp))
    | int j => obtain ⟨t', rfl⟩ := ry; exact PySem.EqNone.eq_none_int (fin_bl I q (by simp))
    | str j => obtain ⟨t', rfl⟩ := ry; exact PySem.EqNone.eq_none_str (fin_bl I q (by simp))
    | _ => exact absurd (show false = true from hs) Bool.false_ne_true
  | bl i =>
    cases rx
    cases y with
    | non => cases ry; exact PySem.EqNone.eq_bool_none (fin_bl I q (by simp))
    | bl j => cases ry; exact eq_bool (fin_bl I q dec_bl)
    | str j => obtain ⟨t', rfl⟩ := ry; exact PySem.EqMixed.eq_bool_str (fin_bl I q (by simp))
    | _ => exact absurd (show false = true from hs) Bool.false_ne_true
  | int i =>
    obtain ⟨t, rfl⟩ := rx
    cases y with
    | non => cases ry; exact PySem.EqNone.eq_int_none (fin_bl I q (by simp))
    | int j => obtain ⟨t', rfl⟩ := ry; exact eq_int (fin_bl I q dec_int)
    | str j => obtain ⟨t', rfl⟩ := ry; exact PySem.EqMixed.eq_int_str (fin_bl I q (by simp))
    | _ => exact absurd (show false = true from hs) Bool.false_ne_true
  | str i =>
    obtain ⟨t, rfl⟩ := rx
    cases y with
    | non => cases ry; exact PySem.EqNone.eq_str_none (fin_bl I q (by simp))
    | bl j => cases ry; exact PySem.EqMixed.eq_str_bool (fin_bl I q (by simp))
    | int j => obtain ⟨t', rfl⟩ := ry; exact PySem.EqMixed.eq_str_int (fin_bl I q (by simp))
    | str j => obtain ⟨t', rfl⟩ := ry; exact eq_str (fin_bl I q dec_str)
    | _ => exact absurd (show false = true from hs) Bool.false_ne_true
  | byt i =>
    obtain ⟨t, rfl⟩ := rx
    cases y with
    | byt j => obtain ⟨t', rfl⟩ := ry; exact PySem.W.eq_bytes (fin_bl I q dec_byt)
    | _ => exact absurd (show false = true from hs) Bool.false_ne_true
  | _ => cases y <;> exact absurd (show false = true from hs) Bool.false_ne_true
theorem op_ne : OpR X (compareOp .NotEq) rNe := by
  intro pins s σ H x y v u Q I rx ry h
  obtain ⟨hs, q⟩ := h
  cases x with
  | non =>
    cases rx
    cases y with
    | non => cases ry; exact PySem.EqNone.ne_none_none (fin_bl I q (by simp))
    | bl j => cases ry; exact PySem.EqNone.ne_none_bool (fin_bl I q (by simp))
    | int j => obtain ⟨t', rfl⟩ := ry; exact PySem.EqNone.ne_none_int (fin_bl I q (by simp))
    | str j => obtain ⟨t', rfl⟩ := ry; exact PySem.EqNone.ne_none_str (fin_bl I q (by simp))
    | _ => exact absurd (show false = true from hs) Bool.false_ne_true
  | bl i =>
    cases rx
    cases y with
    | non => cases ry; exact PySem.EqNone.ne_bool_none (fin_bl I q (by simp))
    | bl j => cases ry; exact ne_bool (fin_bl I q (congrArg not dec_bl))
    | str j => obtain ⟨t', rfl⟩ := ry; exact PySem.EqMixed.ne_bool_str (fin_bl I q (by simp))
    | _ => exact absurd (show false = true from hs) Bool.false_ne_true
  | int i =>
    obtain ⟨t, rfl⟩ := rx
    cases y with
    | non => cases ry; exact PySem.EqNone.ne_int_none (fin_bl I q (by simp))
    | int j => obtain ⟨t', rfl⟩ := ry; exact ne_int (fin_bl I q (congrArg not dec_int))
    | str j => obtain ⟨t', rfl⟩ := ry; exact PySem.EqMixed.ne_int_str (fin_bl I q (by simp))
    | _ => exact absurd (show false = true from hs) Bool.false_ne_true
  | str i =>
    obtain ⟨t, rfl⟩ := rx
    cases y with
    | non => cases ry; exact PySem.EqNone.ne_str_none (fin_bl I q (by simp))
    | bl j => cases ry; exact PySem.EqMixed.ne_str_bool (fin_bl I q (by simp))
    | int j => obtain ⟨t', rfl⟩ := ry; exact PySem.EqMixed.ne_str_int (fin_bl I q (by simp))
    | str j => obtain ⟨t', rfl⟩ := ry; exact ne_str (fin_bl I q (congrArg not dec_str))
    | _ => exact absurd (show false = true from hs) Bool.false_ne_true
  | byt i =>
    obtain ⟨t, rfl⟩ := rx
    cases y with
    | byt j => obtain ⟨t', rfl⟩ := ry; exact PySem.W.ne_bytes (fin_bl I q (congrArg not dec_byt))
    | _ => exact absurd (show false = true from hs) Bool.false_ne_true
  | _ => cases y <;> exact absurd (show false = true from hs) Bool.false_ne_true

theorem op_lt : OpR X (compareOp .Lt) (rI0 fun i j => .bl (decide (i < j))) := opB0 fun _ _ _ _ _ _ _ q => lt_int q
theorem op_le : OpR X (compareOp .LtE) (rI0 fun i j => .bl (decide (i ≤ j))) := opB0 fun _ _ _ _ _ _ _ q => le_int q
theorem op_gt : OpR X (compareOp .Gt) (rI0 fun i j => .bl (decide (j < i))) := opB0 fun _ _ _ _ _ _ _ q => gt_int q
/-- is None, is not None: the right side a value none -/
theorem op_isN : OpR X (compareOp .Is) (fun x y H Q => y = .non ∧ Q (.bl (decide (x = .non))) H) := by
  intro pins s σ H x y v u Q I rx ry h
  obtain ⟨rfl, q⟩ := h
  cases ry
  refine is_none_gen (fin_bl I q ?_)
  cases x <;> first
    | (cases rx; rfl)
    | (obtain ⟨t, rfl⟩ := rx; rfl)
theorem nomark (b : Expr) {op : CmpOp} (h : op ≠ .In := by decide) (h2 : op ≠ .NotIn := by decide) : behindInMarks op b = false := by
  have e1 : (op == CmpOp.In) = false := by cases op <;> first | rfl | exact absurd rfl h
  have e2 : (op == CmpOp.NotIn) = false := by cases op <;> first | rfl | exact absurd rfl h2
  cases b <;> simp [behindInMarks, e1, e2]
/-- a comparison as a value; hm: nomark b, or (for in, not in) by with_unfolding_all rfl -/
theorem pe_cmpR {op : CmpOp} {r : R2} (ho : OpR X (compareOp op) r) (ha : PE X a ta) (hb : PE X b tb) (hm : behindInMarks op b = false) : PE X (.Compare a [op] [b] pos) (tOp r ta tb) := by
  intro pins s σ H Q I h
  exact wpAny_Compare1 (binT ha hb I h fun v u s2 x y H2 I2 rx ry q => ho pins s2 σ H2 x y v u Q I2 rx ry q) hm
/-! ### truth -/
/-- a value's truth by the abstract heap -/
def TruV (K : PySem.W.Frag) (x : V) (H : Hp) (k : Bool) : Prop :=
  match x with
  | .non => k = false
  | .bl b => k = b
  | .int i => k = (i != 0)
  | .str y => y.length ≤ sizeLine ∧ k = ((y.length : Int) != 0)
  | .byt y => y.size ≤ sizeLine ∧ k = ((y.size : Int) != 0)
  | .ref p => (∃ xs, SqL K H p xs ∧ k = !xs.isEmpty) ∨ (∃ xs, SqT K H p xs ∧ k = !xs.isEmpty) ∨ ∃ kvs, H p = some (.dK kvs) ∧ k = !kvs.isEmpty
  | _ => False
theorem isEmpty_kv {κ : Type} {kvs : List (κ × V)} {vs : List (κ × Value)} (r : KV kvs vs) : (!vs.isEmpty) = !kvs.isEmpty := by
  cases r <;> rfl
theorem isEmpty_of {xs : List V} {its : List Value} (r : Vals xs its) : (!its.toArray.isEmpty) = !xs.isEmpty := by
  cases r <;> simp
theorem line63 : (sizeLine : Nat) < 2 ^ 63 := by rw [sizeLine_eq]; decide
theorem tru_ok : TruR X (fun x H Q => ∃ k, TruV X.K x H k ∧ Q k H) := by
  intro pins s σ H x v Q I rx h
  obtain ⟨k, e, q⟩ := h
  have hl := line63
  have hs : sizeLine = 16777216 := sizeLine_eq
  cases x with
  | non =>
    cases rx
    have e' : k = false := e
    subst e'
    exact truthy_none ⟨H, I, q⟩
  | bl b =>
    cases rx
    have e' : k = b := e
    subst e'
    exact wpAny_truthy_bool ⟨H, I, q⟩
  | int i =>
    obtain ⟨t, rfl⟩ := rx
    have e' : k = (i != 0) := e
    subst e'
    exact PySem.P.truthy_int ⟨H, I, q⟩
  | str y =>
    obtain ⟨t, rfl⟩ := rx
    obtain ⟨hy, e'⟩ : y.length ≤ sizeLine ∧ k = ((y.length : Int) != 0) := e
    subst e'
    exact PySem.P.truthy_str (by omega) ⟨H, I.tok _, q⟩
  | byt y =>
    obtain ⟨t, rfl⟩ := rx
    obtain ⟨hy, e'⟩ : y.size ≤ sizeLine ∧ k = ((y.size : Int) != 0) := e
    subst e'
    exact PySem.W.truthy_bytes (by omega) ⟨H, I.tok _, q⟩
  | ref p =>
    cases rx
    have e' : (∃ xs, SqL X.K H p xs ∧ k = !xs.isEmpty) ∨ (∃ xs, SqT X.K H p xs ∧ k = !xs.isEmpty) ∨ ∃ kvs, H p = some (.dK kvs) ∧ k = !kvs.isEmpty := e
    rcases e' with ⟨xs, hx, e'⟩ | ⟨xs, hx, e'⟩ | ⟨kvs, hx, e'⟩
    · subst e'
      obtain ⟨its, r, pl, hz⟩ := I.list hx
      have hlen := r.length
      exact wpAny_truthy_list pl.isList (by simp only [List.size_toArray]; omega) ⟨H, I.tok _, by rw [isEmpty_of r]; exact q⟩
    · subst e'
      obtain ⟨its, r, pl, hz⟩ := I.tuple hx
      have hlen := r.length
      exact truthy_tuple pl (by simp only [List.size_toArray]; omega) ⟨H, I.tok _, by rw [isEmpty_of r]; exact q⟩
    · subst e'
      obtain ⟨hz, hS, vs, r, m⟩ : kvs.length ≤ sizeLine ∧ (p == sysModules) = false ∧ ∃ vs, KV kvs vs ∧ s.heap.DictOf (mixKind X.prog X.w) p vs := I.hok p _ hx
      have hlen : kvs.length = vs.length := Paired.length r
      exact wpAny_truthy_dict hS m (by omega) ⟨H, I.tok _, by rw [isEmpty_kv r]; exact q⟩
  | _ => exact (show False from e).elim
/-! ### strs and bytes -/
theorem op_add_str : OpR X (binaryOp .Add) (fun x y H Q => ∃ i j, x = .str i ∧ y = .str j ∧ i.length + j.length ≤ sizeLine ∧ Q (.str (i ++ j)) H) := by
  intro pins s σ H x y v u Q I rx ry h
  obtain ⟨i, j, rfl, rfl, hz, q⟩ := h
  obtain ⟨t, rfl⟩ := rx
  obtain ⟨t', rfl⟩ := ry
  exact add_str (fun t' tk => ⟨.str (i ++ j), H, I.tok _, ⟨_, rfl⟩, q⟩) hz
/-! ### scalar builtins, by CallR -/
theorem vals1 {x : V} {us : List Value} (r : Vals [x] us) : ∃ u, us = [u] ∧ RelV x u := by
  cases r with
  | cons r1 r2 => cases r2; exact ⟨_, rfl, r1⟩
theorem vals2 {x y : V} {us : List Value} (r : Vals [x, y] us) : ∃ u w', us = [u, w'] ∧ RelV x u ∧ RelV y w' := by
  cases r with
  | cons r1 r2 =>
    cases r2 with
    | cons r3 r4 => cases r4; exact ⟨_, _, rfl, r1, r3⟩
theorem call_int1 : CallR X (.type "int") (fun xs H Q => (∃ i, xs = [.int i] ∧ Q (.int i) H) ∨ ∃ k, xs = [.bl k] ∧ Q (.int (if k then 1 else 0)) H) := by
  intro pins s σ H xs us Q I r h
  rcases h with ⟨i, rfl, q⟩ | ⟨k, rfl, q⟩
  · obtain ⟨u, rfl, t, rfl⟩ := vals1 r
    exact call_int_int ⟨.int i, H, I, ⟨_, rfl⟩, q⟩
  · obtain ⟨u, rfl, r1⟩ := vals1 r
    cases r1
    exact call_int_bool ⟨.int (if k then 1 else 0), H, I.tok _, ⟨_, rfl⟩, q⟩
end
end L2

namespace L2
open PySem PySem.Spec PyProof.Rows

/-! ### an instance, its attributes a map -/
structure ObjM (h : Heap) (x dx C : Addr) (mA : Str → Option Value) : Prop where
  obj : h.get? x = some (PySem.W.instObj C dx)
  ns : h.Ns1 dx mA
  ne : dx ≠ x

theorem lookIn_ns {h : Heap} {dx : Addr} {mA : Str → Option Value} (n : h.Ns1 dx mA) : ∃ od, h.get? dx = some od ∧ ∀ name, PySem.W.lookIn name od = some (mA name) := by
  obtain ⟨o, es, ep, ho, hd, hk, _, hm⟩ := n
  refine ⟨o, ho, fun name => ?_⟩
  have e := hm name
  unfold nsFind findBy at e
  rw [← Array.find?_toList] at e
  unfold PySem.W.lookIn
  rw [hd]
  dsimp only
  split
  · rename_i y q
    rw [q] at e
    exact congrArg some e
  · rename_i q
    rw [q] at e
    have a : es.toList.any (·.refKey) = false := by
      rw [List.any_eq_false]
      intro y hy
      obtain ⟨z, t, hkey⟩ := hk y (Array.mem_toList_iff.mp hy)
      simp [DictEntry.refKey, hkey]
    have a' : ¬ es.toList.any (·.refKey) = true := by rw [a]; exact Bool.false_ne_true
    rw [if_neg a']
    exact congrArg some e

theorem ObjM.look {h : Heap} {x dx C : Addr} {mA : Str → Option Value} (I : ObjM h x dx C mA) : ∃ od, PySem.W.InstAt h x (PySem.W.instObj C dx) C (some od) ∧ ∀ name, PySem.W.lookIn name od = some (mA name) :=
  let ⟨od, ho, hl⟩ := lookIn_ns I.ns
  ⟨od, ⟨I.obj, rfl, rfl, ho⟩, hl⟩

section
variable {prog : Program} {w : World} {A : Around} {E : Value → Shared → Prop} {s : Shared} {K : PySem.W.Frag} {x dx C f : Addr} {mA : Str → Option Value} {name : Str} {v : Value}

end

/-! ### the attributes as a list of pairs -/
theorem RelO.some_of {v : V} {o : Option Value} (r : RelO (some v) o) : ∃ u, o = some u ∧ RelV v u := by
  cases o with
  | none => exact (show False from r).elim
  | some u => exact ⟨u, rfl, r⟩
section
variable {P : Program} {w : World} {H H' : Hp} {h h' : Heap} {a C dx : Addr} {fs fs' : List (Str × V)}
theorem ins_get (hok : HOk P w H h) (e : H a = some (.ins C dx fs)) : ∃ mA, ObjM h a dx C mA ∧ (∀ f, RelO (fs.lookup f) (mA f)) ∧ PySem.Within mA (fs.map (·.1)) ∧ fs.length ≤ 1000 ∧ H dx = some (.own a) := by
  obtain ⟨d, z, ne, ob, mA, n, r, q⟩ := (show ObjOk P w H h a (.ins C dx fs) from hok a _ e)
  exact ⟨mA, ⟨ob, n, ne⟩, r, q, z, d⟩
end

/-! ### what of the text a class must have -/
structure Cls (K : PySem.W.Frag) (C : Addr) : Prop where
  pg : PySem.W.plainGet K C Str.empty = true
  hd : PySem.W.hasDictIn K C = true
  po : PySem.W.plainOver K C = true
  sa : PySem.W.findIn K (.ref C) "__setattr__" = some (some (.builtin "object.__setattr__"))
theorem Cls.get {K : PySem.W.Frag} {C : Addr} (c : Cls K C) (f : Str) : PySem.W.plainGet K C f = true := c.pg
section
variable {X : Cx} {pins : List (Addr × Obj)} {σ : St} {H : Hp} {s : Shared} {a C dx : Addr} {fs : List (Str × V)} {f : Str} {v : V} {A : Around} {E : Value → Shared → Prop}

end

/-! ### readings and rules -/
section
variable {X : Cx} {o e value : Expr} {f : Str} {pos pos' tpos : Pos} {ta tv : TE}
end

/-! ### isinstance -/
section
variable {X : Cx} {pins : List (Addr × Obj)} {σ : St} {H : Hp} {s : Shared} {A : Around} {E : Value → Shared → Prop} {Q : Value → Shared → Prop} {c : Value} {b : Bool}
/-- the type of a value, as the fragment's deciders take it; for an instance its class -/
inductive TyOf (K : PySem.W.Frag) (H : Hp) : V → Value → Prop where
  | non : TyOf K H .non (.type "NoneType")
  | bl (x : Bool) : TyOf K H (.bl x) (.type "bool")
  | int (i : Int) : TyOf K H (.int i) (.type "int")
  | str (x : Str) : TyOf K H (.str x) (.type "str")
  | flt (x : UInt64) : TyOf K H (.flt x) (.type "float")
  | lst {a : Addr} {xs : List V} (e : H a = some (.lst xs)) : TyOf K H (.ref a) (.type "list")
  | frz {a : Addr} {o : Obj} {xs : List V} (e : H a = some (.frz o (.lst xs))) : TyOf K H (.ref a) (.type "list")
  | tup {a : Addr} {xs : List V} (e : H a = some (.tup xs)) : TyOf K H (.ref a) (.type "tuple")
  | dK {a : Addr} {kvs : List (Key × V)} (e : H a = some (.dK kvs)) : TyOf K H (.ref a) (.type "dict")
  | dT {a : Addr} {kvs : List (List Key × V)} (e : H a = some (.dT kvs)) : TyOf K H (.ref a) (.type "dict")
  | ins {a C dx : Addr} {fs : List (Str × V)} (e : H a = some (.ins C dx fs)) (cl : Cls K C) (ha : PySem.W.findIn K (.ref C) "__class__" = some (some (.builtin "object.__class__")))
      (hn : PySem.W.specialIn K (.builtin "object.__class__") "__get__" = some (some (.builtin "getset_descriptor.__get__"))) (htk : PySem.W.takesIn K (.builtin "object.__class__") = some true)
      (hm : PySem.W.mroIn K C (.type "object") = some true) : TyOf K H (.ref a) (.ref C)
/-- isinstance(x, c) for one class c, a built-in or an own one: kitOne's answer -/
theorem isinst_ok {x : V} {u t : Value} (I : Inv X pins σ H s) (rx : RelV x u) (ty : TyOf X.K H x t) (e : PySem.W.kitOne X.K t c = some b) (h : ∀ tk, Q (.bool b) { s with toks := tk }) :
    wpAny (model X.prog X.w) A (call (.builtin "isinstance") [u, c]) Q E s := by
  cases ty with
  | non => cases (show u = Value.none from rx); exact PySem.W.kia_one PySem.W.kitx_none I.kIn True.intro e (fun z => nomatch z) h
  | bl y => cases (show u = Value.bool y from rx); exact PySem.W.kia_one PySem.W.kitx_bool I.kIn True.intro e (fun z => nomatch z) h
  | int i => obtain ⟨t, q⟩ := (show ∃ t, u = Value.int i t from rx); cases q; exact PySem.W.kia_one PySem.W.kitx_int I.kIn True.intro e (fun z => nomatch z) h
  | str y => obtain ⟨t, q⟩ := (show ∃ t, u = Value.str y t from rx); cases q; exact PySem.W.kia_one PySem.W.kitx_str I.kIn True.intro e (fun z => nomatch z) h
  | flt y => obtain ⟨t, q⟩ := (show ∃ t, u = Value.float y t from rx); cases q; exact PySem.W.kia_one PySem.W.kitx_float I.kIn True.intro e (fun z => nomatch z) h
  | @lst a xs ea =>
    cases (show u = Value.ref a from rx)
    obtain ⟨_, _, n, _, h1⟩ := (show ObjOk X.prog X.w H s.heap a (.lst xs) from I.hok a _ ea)
    exact PySem.W.kia_one PySem.W.kitx_list I.kIn ⟨_, h1, rfl⟩ e (fun z => nomatch z) h
  | @frz a ob xs ea =>
    cases (show u = Value.ref a from rx)
    obtain ⟨_, _, _, n, _, h1⟩ := (show ObjOk X.prog X.w H s.heap a (.frz ob (.lst xs)) from I.hok a _ ea)
    exact PySem.W.kia_one PySem.W.kitx_list I.kIn ⟨_, h1, rfl⟩ e (fun z => nomatch z) h
  | @tup a xs ea =>
    cases (show u = Value.ref a from rx)
    obtain ⟨_, _, _, p⟩ := (show ObjOk X.prog X.w H s.heap a (.tup xs) from I.hok a _ ea)
    obtain ⟨o, h1, h2, _⟩ := p
    exact PySem.W.kia_one PySem.W.kitx_tuple I.kIn ⟨o, h1, h2⟩ e (fun z => nomatch z) h
  | @dK a kvs ea =>
    cases (show u = Value.ref a from rx)
    obtain ⟨_, _, vs, _, p⟩ := (show ObjOk X.prog X.w H s.heap a (.dK kvs) from I.hok a _ ea)
    obtain ⟨o, es, ep, h1, h2, _⟩ := p
    exact PySem.W.kia_one PySem.W.kitx_dict I.kIn ⟨o, h1, h2.1⟩ e (fun z => nomatch z) h
  | @dT a kvs ea =>
    cases (show u = Value.ref a from rx)
    obtain ⟨_, _, xs, _, o, es, ep, h1, h2, _⟩ := (show ObjOk X.prog X.w H s.heap a (.dT kvs) from I.hok a _ ea)
    exact PySem.W.kia_one PySem.W.kitx_dict I.kIn ⟨o, h1, h2.1⟩ e (fun z => nomatch z) h
  | @ins a C dx fs ea cl ha hn htk hm =>
    cases (show u = Value.ref a from rx)
    obtain ⟨mA, O, _⟩ := ins_get I.hok ea
    obtain ⟨od, J, _⟩ := O.look
    exact PySem.W.kia_one (PySem.W.kitx_own (cl.get _) cl.hd ha hn htk hm) I.kIn J e (fun z => nomatch z) h
end
end L2

namespace L2
open PySem PySem.Spec PyProof.Rows

/-! ### room -/
structure Room (k : Nat) (A : Around) : Prop where
  hd : A.handled = none
  dp : A.depth + 3 * k + 5 < recursionLimit
  un : A.units + 16 * k + 200 < cLine
theorem Room.mono {j k : Nat} {A : Around} (r : Room k A) (h : j ≤ k) : Room j A := ⟨r.hd, by have := r.dp; omega, by have := r.un; omega⟩
theorem Room.deeper {k : Nat} {A : Around} (r : Room (k + 1) A) (env : Env) : Room k (A.deeper env) :=
  ⟨r.hd, by have := r.dp; show A.depth + 1 + 3 * k + 5 < _; omega, by have := r.un; show A.units + 3 + 16 * k + 200 < _; omega⟩
theorem Room.depth {k : Nat} {A : Around} (r : Room k A) : A.depth < recursionLimit := by have := r.dp; omega
theorem Room.units {k : Nat} {A : Around} (r : Room k A) : A.units + 64 < cLine := by have := r.un; omega
/-! ### argument lists and displays -/
def tNil : TA := fun _ H Q => Q [] H
def tCons (ta : TE) (tr : TA) : TA := fun σ H Q => ta σ H fun x H1 => tr σ H1 fun xs H2 => Q (x :: xs) H2
section
variable {X : Cx} {e : Expr} {es : List Expr} {te : TE} {t : TA} {pos : Pos}
theorem pa_nil : PA X [] tNil := fun _ _ _ _ H Q I h => Calls.spliced_nil ⟨[], H, I, .nil, h⟩
theorem pa_cons (ha : PE X e te) (hr : PA X es t) (hs : starEach (e :: es) X.env = (false, eval e X.env) :: starEach es X.env := by rfl) : PA X (e :: es) (tCons te t) := by
  intro pos pins s σ H Q I h
  rw [hs]
  show wpAny _ _ (spliced ((false, eval e X.env) :: backTo pos (starEach es X.env))) _ _ s
  refine Calls.spliced_cons (thn (ha pins s σ H _ I h) fun u s1 ⟨x, H1, I1, r1, q1⟩ => ?_)
  exact thn (hr pos pins s1 σ H1 _ I1 q1) fun us s2 ⟨xs, H2, I2, r2, q2⟩ => ⟨x :: xs, H2, I2, .cons r1 r2, q2⟩

end

/-! ### what a def promises -/
/-- a def's promise: the bound arguments in the parameters' order, the heap, the wanted end, the wanted exception -/
abbrev Sp := List V → Hp → VK → XK → Prop
/-- how an exception lies behind a call (file 08 gives it): the callers' frames, abstract heap and state ahead of the call, the wish, the exception, the state -/
abbrev CXT := List Env → Hp → Shared → XK → Value → Shared → Prop

/-- the state at a call -/
structure Env0 (P : Program) (w : World) (K : PySem.W.Frag) (mg : Str → Option Value) (base : Heap) (A : Around) (outer : List Env) (s : Shared) (H : Hp) : Prop where
  frames : A.frames = some outer
  mod : Mod K mg base
  bs : ∀ b o, base.get? b = some o → s.heap.get? b = some o ∧ H b = none
  bsz : base.objs.size ≤ s.heap.objs.size
  funs : s.heap.FunFrames base outer
  frf : ∀ b ∈ frs outer, H b = none
  hok : HOk P w H s.heap
  bare : AllBare s.gens
/-- a call's end -/
def CE (outer : List Env) (P : Program) (w : World) (H : Hp) (s : Shared) (Q : VK) (u : Value) (s' : Shared) : Prop :=
  ∃ v H', s'.os = s.os ∧ AllBare s'.gens ∧ Un (frs outer) [] H H' s.heap s'.heap ∧ HOk P w H' s'.heap ∧ RelV v u ∧ Q v H'
def CR (CX : CXT) (outer : List Env) (P : Program) (w : World) (H : Hp) (s : Shared) (Q : VK) (E : XK) (r : Result) (s' : Shared) : Prop :=
  match r with
  | .ok (.ret u) => CE outer P w H s Q u s'
  | .ok _ => False
  | .error e => CX outer H s E e s'
structure FnOk (P : Program) (w : World) (K : PySem.W.Frag) (mg : Str → Option Value) (base : Heap) (CX : CXT) (k : Nat) (f : Addr) (fd : FuncData) (ps : List Str) (sp : Sp) : Prop where
  len : ∀ vs H Q E, sp vs H Q E → vs.length = ps.length
  run : ∀ (A : Around) (outer : List Env) (s : Shared) (H : Hp) (args : Args) (us : List Value) (vs : List V) (Q : VK) (E : XK), Room k A → Env0 P w K mg base A outer s H → BindsTo s fd args (ps.zip us) → Vals vs us → sp vs H Q E →
    codeAny (model P w) A (.call (.ref f) args) (CR CX outer P w H s Q E) s
section
variable {X : Cx} {pins : List (Addr × Obj)} {σ : St} {H : Hp} {s s' : Shared}
/-- from a body: what a callee wants -/
theorem Inv.env0 (I : Inv X pins σ H s) : Env0 X.prog X.w X.K X.mg X.base X.A X.stack s H :=
  ⟨I.ok.frames, I.ok.mod, I.bs, Nat.le_trans I.ok.bsz I.sz, I.stack, I.stkFree, I.hok, I.bare⟩
/-- behind a call -/
theorem Inv.after {Q : VK} {u : Value} (I : Inv X pins σ H s) (h : CE X.stack X.prog X.w H s Q u s') : EP X pins σ Q u s' := by
  obtain ⟨v, H', os, bare, un, hok, r, q⟩ := h
  obtain ⟨hh, g, d, t, os'⟩ := s'
  obtain rfl : os' = s.os := os
  exact ⟨v, H', I.call (h' := hh) (g' := g) (d' := d) (t' := t) (ch := []) un hok bare (fun b z => absurd z (by simp)), r, q⟩
end

/-! ### calls -/
/-- f(..): the written arguments, then the defaults dvs; E: what is wanted of an exception -/
def tCall (sp : Sp) (dvs : List V) (E : XK) (t : TA) : TE := fun σ H Q => t σ H fun vs H1 => sp (vs ++ dvs) H1 Q E
/-- how the parameters are bound: us the positional arguments, kw the keywords' values by name, ds the defaults that fill up -/
def Binds (K : PySem.W.Frag) (fd : FuncData) (ps : List Str) (ds : List Value) : Prop :=
  ∀ (s : Shared) (us : List Value), K.In s.heap → (us ++ ds).length = ps.length → BindsTo s fd ⟨us, []⟩ (ps.zip (us ++ ds))
/-- every parameter is given -/
theorem Binds.all {K : PySem.W.Frag} {fd : FuncData} {ps : List Str} (h : ∀ us : List Value, us.length = ps.length → bindArgs fd ⟨us, []⟩ = pure (ps.zip us)) : Binds K fd ps [] := fun s us _ hl => by
  rw [List.append_nil] at hl ⊢
  exact .of_eq (h us hl)

/-- an exception of a callee reaches what this body wants of exceptions -/
def Passes (CX : CXT) (X : Cx) (E : XK) : Prop := ∀ (pins : List (Addr × Obj)) (σ : St) (H : Hp) (s : Shared) (e : Value) (s' : Shared), Inv X pins σ H s → CX X.stack H s E e s' → X.xe e s'

section
variable {X : Cx} {CX : CXT} {k : Nat} {f C : Addr} {fd : FuncData} {ps : List Str} {sp : Sp} {dvs : List V} {ds : List Value} {E : XK} {x m : Str} {p pos apos : Pos} {e o : Expr} {es : List Expr} {ta : TE} {t : TA}

/-- the callee runs -/
theorem run_fn {pins : List (Addr × Obj)} {σ : St} {H : Hp} {s : Shared} {Q : VK} {us : List Value} {vs : List V} (F : FnOk X.prog X.w X.K X.mg X.base CX k f fd ps sp) (hr : Room k X.A) (hb : Binds X.K fd ps ds) (hd : Vals dvs ds) (hx : Passes CX X E)
    (I : Inv X pins σ H s) (r : Vals vs us) (h : sp (vs ++ dvs) H Q E) : wpAny (model X.prog X.w) X.A (call (.ref f) us) (EP X pins σ Q) X.xe s := by
  have r2 : Vals (vs ++ dvs) (us ++ ds) := r.append hd
  have hl : (us ++ ds).length = ps.length := by rw [← r2.length]; exact F.len _ _ _ _ h
  refine wpAny_call (codeAny_mono (F.run X.A X.stack s H ⟨us, []⟩ (us ++ ds) (vs ++ dvs) Q E hr I.env0 (hb s us I.kIn hl) r2 h) fun r s' hq => ?_)
  cases r with
  | error e => exact hx pins σ H s e s' I hq
  | ok fl =>
    cases fl with
    | ret u => exact I.after hq
    | next => exact False.elim hq
    | brk => exact False.elim hq
    | cont => exact False.elim hq

theorem pe_call (F : FnOk X.prog X.w X.K X.mg X.base CX k f fd ps sp) (hr : Room k X.A) (hg : Gl X x) (hm : X.mg x = some (.ref f)) (hk : PySem.W.keepIn X.K (.ref f) = true) (hb : Binds X.K fd ps ds) (hd : Vals dvs ds) (hx : Passes CX X E)
    (ha : PA X (e :: es) t) (hdb : (x == ("__debug__" : Str)) = false := by decide) (he : starEach (e :: es) X.env = (false, eval e X.env) :: starEach es X.env := by rfl) (hpl : (backTo pos (starEach es X.env)).any (·.1) = false := by rfl) :
    PE X (.Call (.Name x p) (e :: es) [] pos) (tCall sp dvs E t) := by
  intro pins s σ H Q I h
  refine wpAny_Call_Name_kw (ld_glob I hg hm ?_ hdb)
  refine PySem.W.callWith_K (h₀ := X.base) I.ok.mod.kin hk (thn (ha pos pins s σ H _ I h) fun us s1 ⟨vs, H1, I1, r, q⟩ => ⟨I1.kIn, ?_⟩) he hpl
  exact run_fn F hr hb hd hx I1 r q
end

/-! ### keywords -/
section
variable {X : Cx} {CX : CXT} {k : Nat} {f C : Addr} {fd : FuncData} {ps ks : List Str} {sp : Sp} {E : XK} {x m : Str} {p pos apos kpos : Pos} {e o : Expr} {es : List Expr} {kws : List Keyword} {te ta : TE} {t tk : TA} {nm : Option Str}
variable {g : List Value → List Value → List Value} {gV : List V → List V → List V}
end

/-! ### a def's body keeps its promise -/
/-- names: the parameters first -/
structure FnScope (N P : List Str) (sc : Scope) : Prop where
  kind : sc.kind = .function
  co : sc.isCoroutine = false
  gen : sc.isGenerator = false
  nd : N.Nodup
  pre : N.take P.length = P
  par : ∀ x ∈ P, sc.names.lookup x = some .local ∨ sc.names.lookup x = some .cell
  nofree : ∀ y ∈ sc.names, y.2 ≠ .free

theorem bindL_out {kindOf : Str → Option NameKind} {x : Str} : ∀ {binds : List (Str × Value)} {m : Str → Option Value}, (∀ v, (x, v) ∉ binds) → bindL kindOf binds m x = m x
  | [], _, _ => rfl
  | (n, v) :: r, m, h => by
    unfold bindL
    rw [bindL_out fun w hw => h w (List.mem_cons_of_mem _ hw)]
    split
    · have : x ≠ n := by rintro rfl; exact h v List.mem_cons_self
      simp [this]
    · rfl
theorem bindC_out {kindOf : Str → Option NameKind} {x : Str} : ∀ {binds : List (Str × Value)} {m : Str → Option Value}, (∀ v, (x, v) ∉ binds) → bindC kindOf binds m x = m x
  | [], _, _ => rfl
  | (n, v) :: r, m, h => by
    unfold bindC
    rw [bindC_out fun w hw => h w (List.mem_cons_of_mem _ hw)]
    split
    · rfl
    · have : x ≠ n := by rintro rfl; exact h v List.mem_cons_self
      simp [this]
theorem bindL_get {kindOf : Str → Option NameKind} {x : Str} {v : Value} : ∀ {P : List Str} {vs : List Value} {i : Nat} {m : Str → Option Value}, P.Nodup → P[i]? = some x → vs[i]? = some v → kindOf x = some .local →
    bindL kindOf (P.zip vs) m x = some v
  | [], _, _, _, _, h, _, _ => by simp at h
  | _ :: _, [], _, _, _, _, h, _ => by simp at h
  | p :: P, w :: vs, 0, m, nd, h1, h2, hk => by
    simp at h1 h2; subst h1; subst h2
    show bindL kindOf ((p, w) :: P.zip vs) m p = _
    unfold bindL
    rw [bindL_out fun v hv => (List.nodup_cons.mp nd).1 (List.of_mem_zip hv).1, if_pos hk]
    simp
  | p :: P, w :: vs, i + 1, m, nd, h1, h2, hk => by
    show bindL kindOf ((p, w) :: P.zip vs) m x = _
    unfold bindL
    exact bindL_get (i := i) (List.nodup_cons.mp nd).2 (by simpa using h1) (by simpa using h2) hk
theorem bindC_get {kindOf : Str → Option NameKind} {x : Str} {v : Value} : ∀ {P : List Str} {vs : List Value} {i : Nat} {m : Str → Option Value}, P.Nodup → P[i]? = some x → vs[i]? = some v → kindOf x ≠ some .local →
    bindC kindOf (P.zip vs) m x = some v
  | [], _, _, _, _, h, _, _ => by simp at h
  | _ :: _, [], _, _, _, _, h, _ => by simp at h
  | p :: P, w :: vs, 0, m, nd, h1, h2, hk => by
    simp at h1 h2; subst h1; subst h2
    show bindC kindOf ((p, w) :: P.zip vs) m p = _
    unfold bindC
    rw [bindC_out fun v hv => (List.nodup_cons.mp nd).1 (List.of_mem_zip hv).1, if_neg hk]
    simp
  | p :: P, w :: vs, i + 1, m, nd, h1, h2, hk => by
    show bindC kindOf ((p, w) :: P.zip vs) m x = _
    unfold bindC
    exact bindC_get (i := i) (List.nodup_cons.mp nd).2 (by simpa using h1) (by simpa using h2) hk

/-- the names' values at the entry -/
def start (N : List Str) (vs : List V) : St := vs.map some ++ List.replicate (N.length - vs.length) none

/-- the context of a def's body, at its entry; an exception leaves the frame, then lies as CX says -/
def cxOf (CX : CXT) (P : Program) (w : World) (K : PySem.W.Frag) (mg : Str → Option Value) (base : Heap) (N : List Str) (qual : Str) (scope : Scope) (f : Addr) (cd : Value) (A : Around) (outer : List Env) (s : Shared) (H : Hp) (E : XK) : Cx where
  prog := P
  w := w
  K := K
  mg := mg
  base := base
  A := A.deeper (envOfC qual scope s.heap.objs.size f cd)
  N := N
  s₀ := s
  H₀ := H
  env := envOfC qual scope s.heap.objs.size f cd
  outer := outer
  stack := envOfC qual scope s.heap.objs.size f cd :: outer
  ex := []
  calm := true
  fn := fun _ => true
  pn := []
  xe := fun e s' => wpAny (model P w) (A.deeper (envOfC qual scope s.heap.objs.size f cd)) (leaving (envOfC qual scope s.heap.objs.size f cd) e) (fun _ s'' => CX outer H s E e s'') (fun e' s'' => CX outer H s E e' s'') s'

theorem cell_has {sc : Scope} {n : Nat} {x : Str} (h : sc.names.lookup x = some .cell) : ∃ c, (cellsFrom n sc.names []).lookup x = some c := by
  have q := PySem.W.cellsFrom_some sc.names n [] (.inl h)
  exact Option.isSome_iff_exists.mp q

theorem inv_start {CX : CXT} {P : Program} {w : World} {K : PySem.W.Frag} {mg : Str → Option Value} {base : Heap} {N ps : List Str} {qual : Str} {scope : Scope} {f : Addr} {cd : Value} {A : Around} {outer : List Env} {s s1 : Shared} {H : Hp} {E : XK} {us : List Value} {vs : List V}
    (S : FnScope N ps scope) (hd : A.handled = none) (e0 : Env0 P w K mg base A outer s H) (hl : vs.length = ps.length) (r : Vals vs us)
    (x : InCallC s s.heap.objs.size (bindL (envOfC qual scope s.heap.objs.size f cd).kindOf (ps.zip us) fun _ => none) (cellsFrom (s.heap.objs.size + 1) scope.names []) (bindC (envOfC qual scope s.heap.objs.size f cd).kindOf (ps.zip us) fun _ => none) s1) :
    Inv (cxOf CX P w K mg base N qual scope f cd A outer s H E) [] (start N vs) H s1 := by
  have hpl : ps.length ≤ N.length := by have := congrArg List.length S.pre; rw [List.length_take] at this; omega
  obtain ⟨h1, tk, rfl, hk⟩ := x.done
  have noA : ∀ b : Addr, b ∉ (cxOf CX P w K mg base N qual scope f cd A outer s H E).ex := fun b z => absurd (show b ∈ ([] : List Addr) from z) (by simp)
  refine ⟨⟨e0.mod, S.kind, rfl, rfl, Nat.le_refl _, fun y z c h1 h2 => ?_, fun y hy => ?_, fun y c _ h => ?_, fun _ => hd, Around.frames_deeper e0.frames, .inr ⟨rfl, rfl⟩, fun b z => absurd z (noA b), e0.bs, e0.bsz, fun b _ _ => noA b, fun b z => absurd z (noA b), e0.funs, e0.frf⟩,
    rfl, e0.bare, Un.kept hk, ⟨_, x.toInCall.ns, fun i y v h1 h2 h3 => ?_⟩, fun y c h => ⟨_, x.cell y c h⟩, e0.hok.fresh (Nat.le_refl _), fun y c h => ?_, fun p hp => absurd (show p ∈ ([] : List (Addr × Obj)) from hp) (by simp), e0.hok.kept hk, ?_⟩
  · exact name_of_addr x.apart (PySem.mem_of_lookup h1) (PySem.mem_of_lookup h2)
  · have hy : scope.names.lookup y = some .cell ∨ scope.names.lookup y = some .free := hy
    rcases hy with hy | hy
    · exact cell_has hy
    · exact absurd rfl (S.nofree _ (PySem.mem_of_lookup hy))
  · exact Nat.le_of_lt (x.above y c (PySem.mem_of_lookup h))
  · have hi : i < vs.length := by
      unfold start at h2
      by_cases hi : i < vs.length
      · exact hi
      · rw [List.getElem?_append_right (by simpa using hi)] at h2
        rw [List.getElem?_replicate] at h2
        split at h2 <;> cases h2
    have ha : vs[i]? = some v := by
      unfold start at h2
      rw [List.getElem?_append_left (by simpa using hi), List.getElem?_map] at h2
      cases e : vs[i]? with
      | none => rw [e] at h2; cases h2
      | some a => rw [e] at h2; cases h2; rfl
    obtain ⟨u, hu, rv⟩ := r.get ha
    have hp : ps[i]? = some y := by
      rw [← S.pre, List.getElem?_take_of_lt (by omega)]; exact h1
    have ndP : ps.Nodup := by rw [← S.pre]; exact S.nd.sublist (List.take_sublist _ _)
    refine ⟨u, rv, ?_⟩
    rcases S.par y (List.mem_of_getElem? hp) with k | k
    · exact .inl ⟨k, bindL_get ndP hp hu k⟩
    · obtain ⟨c, e⟩ := cell_has (n := s.heap.objs.size + 1) k
      refine .inr ⟨.inl k, c, e, ?_⟩
      have q := x.cell y c e
      rw [bindC_get ndP hp hu (by show scope.names.lookup y ≠ _; rw [k]; decide)] at q
      exact q
  · exact e0.hok.fresh (Nat.le_of_lt (x.above y c (PySem.mem_of_lookup h)))
  · unfold start
    show _ = N.length
    rw [List.length_append, List.length_map, List.length_replicate]
    omega

/-- THE RULE: a def (or a method) of the text, by its body. The body's reading t is chosen for each entry; it is run at the parameters' values -/
theorem fn_of {CX : CXT} {P : Program} {w : World} {K : PySem.W.Frag} {mg : Str → Option Value} {base : Heap} {k : Nat} {f : Addr} {name qual : Str} {params : Arguments} {body : List Stmt} {scope : Scope} {dV kV doc pm cdv ct oc : Value} {an od : Option Addr}
    {osl : Array (Option Value)} {N ps : List Str} {sp : Sp} (lk : K.lookup f = some ⟨oc, od, .func (PySem.W.fnOf name qual params body scope dV kV doc pm an cdv ct), osl⟩) (hcd : PySem.W.codeIn K cdv qual = true) (S : FnScope N ps scope)
    (len : ∀ vs H Q E, sp vs H Q E → vs.length = ps.length)
    (hbody : ∀ (A : Around) (outer : List Env) (s : Shared) (H : Hp) (vs : List V) (Q : VK) (E : XK), Room k (A.deeper (envOfC qual scope s.heap.objs.size f cdv)) → sp vs H Q E →
      ∃ t, PSs (cxOf CX P w K mg base N qual scope f cdv A outer s H E) body t ∧ t { nx := fun _ H' => Q .non H', rt := Q } (start N vs) H) :
    FnOk P w K mg base CX (k + 1) f (PySem.W.fnOf name qual params body scope dV kV doc pm an cdv ct) ps sp := by
  refine ⟨len, fun A outer s H args us vs Q E hr e0 hb r hsp => ?_⟩
  have hl := len _ _ _ _ hsp
  have KX : K.In s.heap := e0.mod.kin.keeps fun b o e => (e0.bs b o e).1
  have lim : s.heap.NoLimit := e0.mod.nolimit.keeps fun b o e => (e0.bs b o e).1
  have hkind : ∀ y ∈ ps.zip us, scope.names.lookup y.1 = some .local ∨ (scope.names.lookup y.1 = some .cell ∧ ((cellsFrom (s.heap.objs.size + 1) scope.names []).lookup y.1).isSome = true) := fun ⟨n, v⟩ hy => by
    rcases S.par n (List.of_mem_zip hy).1 with q | q
    · exact .inl q
    · exact .inr ⟨q, PySem.W.cellsFrom_some _ _ _ (.inl q)⟩
  refine codeAny_call_function hr.depth (KX _ _ lk) rfl S.co S.gen rfl (PySem.W.codeRec_of KX hcd) (hb _ _ _ _ ?_)
  refine wpAny_newFunctionEnv_cells S.kind hkind fun env he s1 x => ?_
  subst he
  refine ⟨lim.keeps x.toInCall.keep, codeAny_func ?_⟩
  obtain ⟨t, ht, hq⟩ := hbody A outer s H vs Q E (hr.deeper _) hsp
  have I : Inv (cxOf CX P w K mg base N qual scope f cdv A outer s H E) [] (start N vs) H s1 := inv_start S hr.hd e0 hl r x
  refine wpAny_mono (ht [] s1 (start N vs) H _ I hq) (fun fl s' hs => ?_) fun e s' hs => hs
  have fin : ∀ {σ' : St} {H' : Hp} {v : V} {u : Value}, Inv (cxOf CX P w K mg base N qual scope f cdv A outer s H E) [] σ' H' s' → RelV v u → Q v H' → CE outer P w H s Q u s' :=
    fun {σ' H' v u} J rv q => ⟨v, H', J.os, J.bare, J.base, J.hok, rv, q⟩
  cases fl with
  | ret u =>
    obtain ⟨v, σ', H', J, rv, q⟩ := hs
    exact fin J rv q
  | next =>
    obtain ⟨σ', H', J, q⟩ := hs
    exact fin (v := V.non) (u := Value.none) J rfl q
  | brk =>
    obtain ⟨_, _, _, q⟩ := hs
    exact False.elim q
  | cont =>
    obtain ⟨_, _, _, q⟩ := hs
    exact False.elim q
end L2

namespace L2
open PySem PySem.Spec PyProof.Rows
section
variable {X : Cx} {x : Str} {p pos : Pos} {e : Expr} {es : List Expr} {t : TA} {id T : String} {r : List V → Hp → VK → Prop}

def tCB (r : List V → Hp → VK → Prop) (t : TA) : TE := fun σ H Q => t σ H fun vs H1 => r vs H1 Q
/-- f(e, ..), f a built-in function -/
theorem pe_callB (hc : CallR X (.builtin id) r) (hg : Gl X x) (hm : X.mg x = none) (hv : bootBuiltins x = some (.builtin id)) (ha : PA X (e :: es) t) (hn : x ≠ "__name__" := by decide) (hdb : (x == ("__debug__" : Str)) = false := by decide)
    (he : starEach (e :: es) X.env = (false, eval e X.env) :: starEach es X.env := by rfl) (hpl : (backTo pos (starEach es X.env)).any (·.1) = false := by rfl) : PE X (.Call (.Name x p) (e :: es) [] pos) (tCB r t) := by
  intro pins s σ H Q I h
  refine wpAny_Call_Name_kw (ld_blt I hg hm hv ?_ hn hdb)
  exact PyProof.Rows.callWith_builtin1 (thn (ha pos pins s σ H _ I h) fun us s1 ⟨vs, H1, I1, r1, q1⟩ => hc pins s1 σ H1 vs us Q I1 r1 q1) he hpl
/-- T(e, ..), T a built-in type -/
theorem pe_callTy (hc : CallR X (.type T) r) (hg : Gl X x) (hm : X.mg x = none) (hv : bootBuiltins x = some (.type T)) (ha : PA X (e :: es) t) (hn : x ≠ "__name__" := by decide) (hdb : (x == ("__debug__" : Str)) = false := by decide)
    (he : starEach (e :: es) X.env = (false, eval e X.env) :: starEach es X.env := by rfl) (hpl : (backTo pos (starEach es X.env)).any (·.1) = false := by rfl) : PE X (.Call (.Name x p) (e :: es) [] pos) (tCB r t) := by
  intro pins s σ H Q I h
  refine wpAny_Call_Name_kw (ld_blt I hg hm hv ?_ hn hdb)
  exact PyProof.Rows.callWith_type1 (thn (ha pos pins s σ H _ I h) fun us s1 ⟨vs, H1, I1, r1, q1⟩ => hc pins s1 σ H1 vs us Q I1 r1 q1) he hpl
end
end L2

namespace HT
open PySem PyProof.Rows

section
open PySem.SeqAt
open PySem.AutoSeq1 (wpAny_loadPart')
open PySem.MeetsSeq PySem.MeetsSeq2 PySem.MeetsSeq3

end

section
variable {prog : Program} {w : World} {A : Around} {E : Value → Shared → Prop} {s : Shared}

/-! ### t[a:b], not the whole -/
/-- a slice's bound as a place among n (d where it is left out) -/
def sIx (n d : Nat) : Option Int → Nat
  | none => d
  | some v => if v < 0 then (v + (n : Int)).toNat else min v.toNat n
end
end HT

namespace L2
open PySem PySem.Spec PyProof.Rows

/-! ### the parts of a slice -/
abbrev TO := St → Hp → (Option Int → Hp → Prop) → Prop
/-- a slice's part (left out, or an int) -/
def PO (X : Cx) (e : Option Expr) (t : TO) : Prop :=
  ∀ (pins : List (Addr × Obj)) (s : Shared) (σ : St) (H : Hp) (Q : Option Int → Hp → Prop), Inv X pins σ H s → t σ H Q →
    wpAny (model X.prog X.w) X.A (evalPart e X.env) (fun u s' => ∃ o H', Inv X pins σ H' s' ∧ IsPart u o ∧ Q o H') X.xe s
def tNoPart : TO := fun _ H Q => Q none H
theorem intsAre_of {ns : List Int} : ∀ {us : List Value}, Vals (ns.map V.int) us → IntsAre us ns := by
  induction ns with
  | nil => intro us r; rw [List.map_nil] at r; cases r; exact .nil
  | cons n ns ih =>
    intro us r
    rw [List.map_cons] at r
    cases r with
    | cons r1 r2 =>
      obtain ⟨t, e⟩ := r1
      subst e
      exact .cons n t (ih r2)

section
variable {X : Cx} {e : Expr} {te : TE} {lo hi : Option Expr} {tl th : TO} {pos p2 : Pos}

theorem po_none : PO X none tNoPart := by
  intro pins s σ H Q I h
  rw [evalPart_none]
  exact wpAny_pure ⟨none, H, I, .none, h⟩
/-- what a slice of a value is, by values: the slice object stands at sl -/
def SlR (X : Cx) (r : V → Option Int → Option Int → Hp → VK → Prop) : Prop :=
  ∀ (pins : List (Addr × Obj)) (s : Shared) (σ : St) (H : Hp) (x : V) (v vl vu : Value) (lo hi : Option Int) (sl : Addr) (Q : VK), Inv X pins σ H s → RelV x v → s.heap.IsSliceOf sl vl vu .none → IsPart vl lo → IsPart vu hi → r x lo hi H Q →
    ∃ T id, typeLookup (.type T) "__getitem__" = pure (some (.builtin id)) ∧ s.TypeIs v T ∧ wpAny (model X.prog X.w) X.A (getItem v (.ref sl)) (EP X pins σ Q) X.xe s
def tSl (r : V → Option Int → Option Int → Hp → VK → Prop) (te : TE) (tl th : TO) : TE := fun σ H Q => te σ H fun x H1 => tl σ H1 fun l H2 => th σ H2 fun u H3 => r x l u H3 Q
/-- a[lo:hi], any a -/
theorem pe_slice {r : V → Option Int → Option Int → Hp → VK → Prop} (hr : SlR X r) (he : PE X e te) (hl : PO X lo tl) (hu : PO X hi th) : PE X (.Subscript e (.Slice lo hi none p2) pos) (tSl r te tl th) := by
  intro pins s σ H Q I h
  refine Subscript_ (thn (he pins s σ H _ I h) fun v s1 ⟨x, H1, I1, r1, q1⟩ => ?_)
  refine wpAny_Slice (thn (hl pins s1 σ H1 _ I1 q1) fun vl s2 ⟨l, H2, I2, pl, q2⟩ => thn (hu pins s2 σ H2 _ I2 q2) fun vu s3 ⟨u, H3, I3, pu, q3⟩ => ?_)
  rw [evalPart_none]
  refine wpAny_pure ?_
  have I4 : Inv X pins σ H3 { s3 with heap := s3.heap.push { cls := .type "slice", data := .fields #[vl, vu, .none] } } := I3.kept (t' := s3.toks) fun b ob q => Heap.get?_push_of_some _ q
  obtain ⟨T, id, hT, ht, hg⟩ := hr pins { s3 with heap := s3.heap.push { cls := .type "slice", data := .fields #[vl, vu, .none] } } σ H3 x v vl vu l u s3.heap.objs.size Q I4 r1 (Heap.IsSliceOf.new ..) pl pu q3
  show wpAny (model X.prog X.w) X.A (subscriptTail e (.Slice lo hi none p2) v (.ref s3.heap.objs.size)) (EP X pins σ Q) X.xe { s3 with heap := s3.heap.push { cls := .type "slice", data := .fields #[vl, vu, .none] } }
  exact tail_any (ops := [.ref s3.heap.objs.size, v]) ht hT hg (by with_unfolding_all rfl)

/-- the items of xs[lo:hi] -/
def cutV (xs : List V) (lo hi : Option Int) : List V := (xs.drop (HT.sIx xs.length 0 lo)).take (HT.sIx xs.length xs.length hi - HT.sIx xs.length 0 lo)
theorem cutV_length (xs : List V) (lo hi : Option Int) : (cutV xs lo hi).length ≤ xs.length := by
  unfold cutV
  rw [List.length_take, List.length_drop]
  omega
/-! ### t < u, t + u -/
end
end L2

namespace L2
open PySem PySem.Spec PyProof.Rows

/-! ### places -/
/-- the place that an index of any sign means -/
def ixN (n : Nat) (i : Int) : Option Nat := if 0 ≤ i then (if i < n then some i.toNat else none) else if -(n : Int) ≤ i then some (i + n).toNat else none
def atI {α : Type} (xs : List α) (i : Int) : Option α := (ixN xs.length i).bind fun j => xs[j]?
theorem ixN_seq {n : Nat} {i : Int} {j : Nat} (h : ixN n i = some j) : seqIndex? i n = some j ∧ j < n ∧ -(n : Int) ≤ i ∧ i < n := by
  unfold ixN at h
  by_cases h0 : 0 ≤ i
  · rw [if_pos h0] at h
    by_cases h1 : i < n
    · rw [if_pos h1] at h
      have e : i.toNat = j := Option.some.inj h
      exact ⟨by rw [seqIndex_of h0 h1, e], by omega, by omega, h1⟩
    · rw [if_neg h1] at h; cases h
  · rw [if_neg h0] at h
    by_cases h1 : -(n : Int) ≤ i
    · rw [if_pos h1] at h
      have e : (i + n).toNat = j := Option.some.inj h
      exact ⟨by rw [seqIndex_neg (by omega) h1, e], by omega, h1, by omega⟩
    · rw [if_neg h1] at h; cases h
theorem atI_get {α : Type} {xs : List α} {i : Int} {v : α} (h : atI xs i = some v) : ∃ j, seqIndex? i xs.length = some j ∧ xs[j]? = some v ∧ j < xs.length ∧ -(xs.length : Int) ≤ i ∧ i < xs.length := by
  unfold atI at h
  cases e : ixN xs.length i with
  | none => rw [e] at h; cases h
  | some j =>
    rw [e] at h
    obtain ⟨h1, h2, h3, h4⟩ := ixN_seq e
    exact ⟨j, h1, h, h2, h3, h4⟩
theorem atI_nat {α : Type} {xs : List α} {j : Nat} {v : α} (h : xs[j]? = some v) : atI xs (j : Int) = some v := by
  have hj : j < xs.length := (List.getElem?_eq_some_iff.mp h).1
  have e : ixN xs.length (j : Int) = some j := by
    unfold ixN
    rw [if_pos (by omega), if_pos (by omega)]; simp
  unfold atI; rw [e]; exact h
/-! ### what may be subscripted -/
/-- what stands as an index of a plain subscript -/
def PlainIx (b : Expr) : Prop := ∀ o i, subscripted b false o i = operate [o, i] (getItem o i)
/-- a subscript by values -/
def IxR (X : Cx) (r : R2) : Prop :=
  ∀ (value slice : Expr) (pins : List (Addr × Obj)) (s : Shared) (σ : St) (H : Hp) (x y : V) (v u : Value) (Q : VK), Inv X pins σ H s → RelV x v → RelV y u → r x y H Q →
    subscripted slice false v u = operate [v, u] (getItem v u) → wpAny (model X.prog X.w) X.A (subscriptTail value slice v u) (EP X pins σ Q) X.xe s
/-- a call of a builtin's method by values: the receiver, the arguments -/
def MtR (X : Cx) (id : String) (r : V → List V → Hp → VK → Prop) : Prop :=
  ∀ (pins : List (Addr × Obj)) (s : Shared) (σ : St) (H : Hp) (x : V) (xs : List V) (v : Value) (us : List Value) (Q : VK), Inv X pins σ H s → RelV x v → Vals xs us → r x xs H Q →
    wpAny (model X.prog X.w) X.A (call (.builtin id) (v :: us)) (EP X pins σ Q) X.xe s
section
variable {X : Cx} {a b : Expr} {ta tb : TE} {pos : Pos}
/-- a[b] -/
theorem pe_ix {r : R2} (hr : IxR X r) (ha : PE X a ta) (hb : PE X b tb) (hs : PlainIx b) : PE X (.Subscript a b pos) (tOp r ta tb) := by
  intro pins s σ H Q I h
  exact Subscript_ (binT ha hb I h fun v u s2 x y H2 I2 rx ry q => hr a b pins s2 σ H2 x y v u Q I2 rx ry q (hs _ _))

def rIxL (K : PySem.W.Frag) : R2 := fun x y H Q => ∃ p xs i v, x = .ref p ∧ y = .int i ∧ SqL K H p xs ∧ atI xs i = some v ∧ Q v H
def rIxT (K : PySem.W.Frag) : R2 := fun x y H Q => ∃ p xs i v, x = .ref p ∧ y = .int i ∧ SqT K H p xs ∧ atI xs i = some v ∧ Q v H
def rIxS : R2 := fun x y H Q => ∃ z i c, x = .str z ∧ y = .int i ∧ z.length ≤ sizeLine ∧ atI z.cps.toList i = some c ∧ Q (.str ⟨#[c]⟩) H
theorem ix_list : IxR X (rIxL X.K) := by
  intro value slice pins s σ H x y v u Q I rx ry h hs
  obtain ⟨p, xs, i, z, rfl, rfl, hq, he, q⟩ := h
  cases rx
  obtain ⟨t, rfl⟩ := ry
  obtain ⟨its, r, pl, hz⟩ := I.list hq
  obtain ⟨j, h1, h2, h3, h4, h5⟩ := atI_get he
  obtain ⟨w, ew, rw'⟩ := r.get h2
  have hl := r.length
  have hn := line63
  have fin : EP X pins σ Q w s := ⟨z, H, I, rw', q⟩
  by_cases h0 : 0 ≤ i
  · have hj : i.toNat = j := by
      rw [seqIndex_of h0 h5] at h1
      exact Option.some.inj h1
    exact item_listR pl.isList h0 (by omega) (by rw [hj]; simpa using ew) fin hs
  · have hj : (i + (its.toArray.size : Int)).toNat = j := by
      rw [seqIndex_neg (by omega) h4] at h1
      rw [List.size_toArray, ← hl]
      exact Option.some.inj h1
    exact subscriptTail_builtinR (x := w) pl.isList.typeIs slot_list_getitem.lookup
      (wpAny_getItem_list_neg (Q := fun r s' => r = w ∧ EP X pins σ Q r s') pl.isList (by omega) (by rw [List.size_toArray] <;> omega) (by omega) (by rw [hj]; simpa using ew) ⟨rfl, fin⟩) hs
theorem ix_tup : IxR X (rIxT X.K) := by
  intro value slice pins s σ H x y v u Q I rx ry h hs
  obtain ⟨p, xs, i, z, rfl, rfl, hq, he, q⟩ := h
  cases rx
  obtain ⟨t, rfl⟩ := ry
  obtain ⟨its, r, pl, hz⟩ := I.tuple hq
  obtain ⟨j, h1, h2, h3, h4, h5⟩ := atI_get he
  obtain ⟨w, ew, rw'⟩ := r.get h2
  have hl := r.length
  have hn := line63
  have fin : EP X pins σ Q w s := ⟨z, H, I, rw', q⟩
  exact subscriptTail_builtinR (x := w) pl.typeIs slot_tuple_getitem.lookup
    (getItem_tuple (j := j) (Q := fun r s' => r = w ∧ EP X pins σ Q r s') pl (by omega) (by omega) (by rw [List.size_toArray, ← hl]; exact h1) (by simpa using ew) ⟨rfl, fin⟩) hs
theorem ix_str : IxR X rIxS := by
  intro value slice pins s σ H x y v u Q I rx ry h hs
  obtain ⟨z, i, c, rfl, rfl, hz, he, q⟩ := h
  obtain ⟨t, rfl⟩ := rx
  obtain ⟨t', rfl⟩ := ry
  obtain ⟨j, h1, h2, h3, h4, h5⟩ := atI_get he
  have hl : z.cps.toList.length = z.length := by simp [Str.length]
  rw [hl] at h1 h4 h5
  have hn := line63
  exact tail_any (typeIs_str s z t) slot_str_getitem.lookup (getItem_str (c := c) (by
    have e1 : decide (i < -(2 ^ 63 : Int)) = false := decide_eq_false (by omega)
    have e2 : decide (i ≥ 2 ^ 63) = false := decide_eq_false (by omega)
    rw [e1, e2, Bool.or_false]) (by rw [h1]; simpa using h2) ⟨.str ⟨#[c]⟩, H, I.tok _, ⟨_, rfl⟩, q⟩) hs
/-! ### xs[i] = v, any sign -/
/-- the list's object behind a store -/
theorem mapSeq_set (its : List Value) (n j : Nat) (u : Value) : Obj.mapSeq (·.setIfInBounds j u) { cls := .type "list", data := .seq its.toArray n } = { cls := .type "list", data := .seq (its.set j u).toArray n } := by
  simp [Obj.mapSeq]
theorem Inv.lst {pins : List (Addr × Obj)} {σ : St} {H : Hp} {s : Shared} {p : Addr} {xs : List V} (I : Inv X pins σ H s) (h : H p = some (.lst xs)) :
    ∃ (its : List Value) (n : Nat), Vals xs its ∧ s.heap.get? p = some { cls := .type "list", data := .seq its.toArray n } ∧ xs.length ≤ sizeLine := by
  obtain ⟨z, its, n, r, e⟩ := I.hok p _ h
  exact ⟨its, n, r, e, z⟩
/-- the list at p is written by an update of its object -/
theorem Inv.lstUpd {pins : List (Addr × Obj)} {σ : St} {H : Hp} {s : Shared} {p : Addr} {xs ys : List V} {its its' : List Value} {n n' : Nat} {f : Obj → Obj} (I : Inv X pins σ H s) (h : H p = some (.lst xs))
    (ho : s.heap.get? p = some { cls := .type "list", data := .seq its.toArray n }) (hf : f { cls := .type "list", data := .seq its.toArray n } = { cls := .type "list", data := .seq its'.toArray n' }) (r : Vals ys its') (hz : ys.length ≤ sizeLine) (t : Nat) :
    Inv X pins σ (upd H p (.lst ys)) { s with heap := s.heap.update p f, toks := t } := by
  have e : (s.heap.update p f).get? p = some { cls := .type "list", data := .seq its'.toArray n' } := by
    rw [Heap.get?_update_self f ho (by rw [hf] <;> rfl), hf]
  refine I.write (x := p) (e := p) (by rw [h]; trivial) (.inl rfl) (fun b u hb q => (Heap.get?_update_other _ _ (Ne.symm hb)).trans q) ⟨_, e⟩ ?_
  exact ⟨hz, its', n', r, e⟩
def rSetL : V → V → V → Hp → (Hp → Prop) → Prop := fun o i v H Q => ∃ p xs k j, o = .ref p ∧ i = .int k ∧ H p = some (.lst xs) ∧ ixN xs.length k = some j ∧ Q (upd H p (.lst (xs.set j v)))
theorem set_list : PSet X rSetL := by
  intro pins s σ H o i v ov iv u Q I ro ri rv h
  obtain ⟨p, xs, k, j, rfl, rfl, hp, hj, q⟩ := h
  cases ro
  obtain ⟨t, rfl⟩ := ri
  obtain ⟨its, n, r, ho, hz⟩ := I.lst hp
  obtain ⟨h1, h2, h3, h4⟩ := ixN_seq hj
  have hl := r.length
  have hn := line63
  have I' : Inv X pins σ (upd H p (.lst (xs.set j v))) { s with heap := s.heap.update p (Obj.mapSeq (·.setIfInBounds j u)) } :=
    I.lstUpd hp ho (mapSeq_set its n j u) (r.set rv j) (by rw [List.length_set]; exact hz) s.toks
  by_cases h0 : 0 ≤ k
  · have hk : k.toNat = j := by
      rw [seqIndex_of h0 h4] at h1
      exact Option.some.inj h1
    exact PySem.W.ki_setAt ho h0 (by omega) (by rw [List.size_toArray, ← hl]; exact h4) (by rw [hk]; exact ⟨_, I', q⟩)
  · have hk : (k + (its.toArray.size : Int)).toNat = j := by
      rw [seqIndex_neg (by omega) h3] at h1
      rw [List.size_toArray, ← hl]
      exact Option.some.inj h1
    exact PySem.W.ki_setBack ho (by omega) (by rw [List.size_toArray, ← hl]; exact h3) (by omega) (by rw [hk]; exact ⟨_, I', q⟩)

/-! ### slices -/
theorem slice_bounds (lo hi : Option Int) (n : Nat) : (sliceBounds lo hi none n).1 = ((HT.sIx n 0 lo : Nat) : Int) ∧ (sliceBounds lo hi none n).2.1 = ((HT.sIx n n hi : Nat) : Int) ∧ (sliceBounds lo hi none n).2.2 = 1 := by
  refine ⟨?_, ?_, rfl⟩
  · cases lo with
    | none => simp [sliceBounds, HT.sIx]
    | some i =>
      simp only [sliceBounds, HT.sIx, Option.getD_none, show (1 : Int) > 0 by decide, if_true]
      by_cases h : i < 0
      · simp only [h, if_true] <;> omega
      · simp only [h, if_false] <;> omega
  · cases hi with
    | none => simp [sliceBounds, HT.sIx]
    | some i =>
      simp only [sliceBounds, HT.sIx, Option.getD_none, show (1 : Int) > 0 by decide, if_true]
      by_cases h : i < 0
      · simp only [h, if_true] <;> omega
      · simp only [h, if_false] <;> omega
theorem slicePick_cut (its : List Value) (lo hi : Option Int) : slicePick its.toArray lo hi none = ((its.drop (HT.sIx its.length 0 lo)).take (HT.sIx its.length its.length hi - HT.sIx its.length 0 lo)).toArray := by
  obtain ⟨h1, h2, h3⟩ := slice_bounds lo hi its.toArray.size
  unfold slicePick
  rw [h1, h2, h3]
  simp only [sliceRange_one, pick_run, List.size_toArray] <;> rfl
/-- xs[lo:hi] of a list: a new list -/
def rSlL (K : PySem.W.Frag) : V → Option Int → Option Int → Hp → VK → Prop := fun x lo hi H Q => ∃ a xs, x = .ref a ∧ SqL K H a xs ∧ ∀ p, H p = none → Q (.ref p) (upd H p (.lst (cutV xs lo hi)))
theorem sl_list : SlR X (rSlL X.K) := by
  intro pins s σ H x v vl vu lo hi sl Q I rx hs pl pu h
  obtain ⟨a, xs, rfl, hx, q⟩ := h
  cases rx
  obtain ⟨its, r, ht, hz⟩ := I.list hx
  have hlen := r.length
  refine ⟨"list", _, slot_list_getitem.lookup, ht.isList.typeIs, ?_⟩
  refine wpAny_getItem_list_slice ht.isList hs pl pu .none (by simp) ?_ (by rw [List.size_toArray] <;> omega)
  rw [slicePick_cut, ← hlen]
  refine ⟨.ref s.heap.objs.size, _, I.laid (t' := s.toks) (o := .lst (cutV xs lo hi)) (fun b ob q => Heap.get?_push_of_some _ q) (Nat.le_refl _) ?_, rfl, q _ (I.hok.fresh (Nat.le_refl _))⟩
  exact ⟨Nat.le_trans (cutV_length xs lo hi) hz, _, 0, (r.drop (HT.sIx xs.length 0 lo)).take (HT.sIx xs.length xs.length hi - HT.sIx xs.length 0 lo), Heap.get?_push_size _ rfl⟩

/-! ### in, not in: flat items -/
def flatV : V → Bool
  | .non => true
  | .bl _ => true
  | .int _ => true
  | .str _ => true
  | _ => false
/-- == of flat values -/
def eqV : V → V → Bool
  | .non, .non => true
  | .bl a, .bl b => a == b
  | .bl a, .int b => (if a then 1 else 0) == b
  | .int a, .bl b => a == (if b then 1 else 0)
  | .int a, .int b => a == b
  | .str a, .str b => a == b
  | _, _ => false
theorem eqAt_V {A : Around} {s : Shared} {y x : V} {u v : Value} (ry : RelV y u) (rx : RelV x v) (fy : flatV y = true) (fx : flatV x = true) : SeqAt.EqAt A s u v (eqV y x) := by
  cases y with
  | non =>
    cases ry
    cases x with
    | non => cases rx; exact SeqAt.EqAt.same _
    | bl b => cases rx; exact SeqAt.EqAt.none_bool b
    | int b => obtain ⟨t, rfl⟩ := rx; exact SeqAt.EqAt.none_int b t
    | str b => obtain ⟨t, rfl⟩ := rx; exact SeqAt.EqAt.none_str b t
    | _ => exact absurd (show false = true from fx) Bool.false_ne_true
  | bl a =>
    cases ry
    cases x with
    | non => cases rx; exact SeqAt.EqAt.bool_none a
    | bl b => cases rx; exact SeqAt.EqAt.bool_bool a b
    | int b => obtain ⟨t, rfl⟩ := rx; exact SeqAt.EqAt.bool_int a b t
    | str b => obtain ⟨t, rfl⟩ := rx; exact SeqAt.EqAt.bool_str a b t
    | _ => exact absurd (show false = true from fx) Bool.false_ne_true
  | int a =>
    obtain ⟨t', rfl⟩ := ry
    cases x with
    | non => cases rx; exact SeqAt.EqAt.int_none a t'
    | bl b => cases rx; exact SeqAt.EqAt.int_bool a t' b
    | int b => obtain ⟨t, rfl⟩ := rx; exact SeqAt.EqAt.int_int a t' b t
    | str b => obtain ⟨t, rfl⟩ := rx; exact SeqAt.EqAt.int_str a t' b t
    | _ => exact absurd (show false = true from fx) Bool.false_ne_true
  | str a =>
    obtain ⟨t', rfl⟩ := ry
    cases x with
    | non => cases rx; exact SeqAt.EqAt.str_none a t'
    | bl b => cases rx; exact SeqAt.EqAt.str_bool a t' b
    | int b => obtain ⟨t, rfl⟩ := rx; exact SeqAt.EqAt.str_int a t' b t
    | str b => obtain ⟨t, rfl⟩ := rx; exact SeqAt.EqAt.str_str a t' b t
    | _ => exact absurd (show false = true from fx) Bool.false_ne_true
  | _ => exact absurd (show false = true from fy) Bool.false_ne_true
/-- the items' answers, read off the values (a value's own answer does not lean on its token) -/
def eqU (x : V) (u : Value) : Bool := match u with
  | .none => eqV .non x
  | .bool b => eqV (.bl b) x
  | .int i _ => eqV (.int i) x
  | .str z _ => eqV (.str z) x
  | _ => false
theorem eqU_of {x y : V} {u : Value} (r : RelV y u) (f : flatV y = true) : eqU x u = eqV y x := by
  cases y with
  | non => cases r; rfl
  | bl b => cases r; rfl
  | int i => obtain ⟨t, rfl⟩ := r; rfl
  | str z => obtain ⟨t, rfl⟩ := r; rfl
  | _ => exact absurd (show false = true from f) Bool.false_ne_true
theorem mem_eqAt {A : Around} {s : Shared} {x : V} {v : Value} (rx : RelV x v) (fx : flatV x = true) : ∀ {xs : List V} {us : List Value}, Vals xs us → xs.all flatV = true → ∀ u ∈ us, SeqAt.EqAt A s u v (eqU x u)
  | _, _, .nil, _ => fun u hu => by cases hu
  | y :: xs, u :: us, .cons r t, f => fun u' hu => by
    rw [List.all_cons, Bool.and_eq_true] at f
    rcases List.mem_cons.mp hu with rfl | hu
    · rw [eqU_of r f.1]; exact eqAt_V r rx f.1 fx
    · exact mem_eqAt rx fx t f.2 u' hu
/-! ### len, list(x), tuple(x) of any list or tuple that is read -/
theorem call_len_seq : CallR X (.builtin "len") (fun xs H Q => ∃ p ys, xs = [.ref p] ∧ (SqL X.K H p ys ∨ SqT X.K H p ys) ∧ Q (.int ys.length) H) := by
  intro pins s σ H xs us Q I r h
  obtain ⟨p, ys, rfl, hq, q⟩ := h
  obtain ⟨u, rfl, rx⟩ := vals1 r
  cases rx
  have hn := line63
  rcases hq with hq | hq
  · obtain ⟨its, r', pl, hz⟩ := I.list hq
    have hlen := r'.length
    exact Calls.call_len_list pl.isList (by simp only [List.size_toArray] <;> omega) ⟨.int ys.length, H, I.tok _, ⟨s.toks + 1, by rw [List.size_toArray, hlen]⟩, q⟩
  · obtain ⟨its, r', pl, hz⟩ := I.tuple hq
    have hlen := r'.length
    exact len_tuple pl (by simp only [List.size_toArray] <;> omega) ⟨.int ys.length, H, I.tok _, ⟨s.toks + 1, by rw [List.size_toArray, hlen]⟩, q⟩
theorem call_len_str : CallR X (.builtin "len") (fun xs H Q => ∃ z, xs = [.str z] ∧ z.length ≤ sizeLine ∧ Q (.int z.length) H) := by
  intro pins s σ H xs us Q I r h
  obtain ⟨z, rfl, hz, q⟩ := h
  obtain ⟨u, rfl, t, rfl⟩ := vals1 r
  have hn := line63
  exact len_str (by omega) ⟨.int z.length, H, I.tok _, ⟨_, rfl⟩, q⟩
theorem call_list_of : CallR X (.type "list") (fun xs H Q => ∃ p ys, xs = [.ref p] ∧ (SqL X.K H p ys ∨ SqT X.K H p ys) ∧ ∀ l, H l = none → Q (.ref l) (upd H l (.lst ys))) := by
  intro pins s σ H xs us Q I r h
  obtain ⟨p, ys, rfl, hq, q⟩ := h
  obtain ⟨u, rfl, rx⟩ := vals1 r
  cases rx
  have fin : ∀ (its : List Value), Vals ys its → ys.length ≤ sizeLine → ∀ (h' : Heap) (c' : Nat), (∀ b o', s.heap.get? b = some o' → h'.get? b = some o') →
      h'.get? s.heap.objs.size = some { cls := .type "list", dict := none, data := .seq its.toArray c', slots := #[] } → EP X pins σ Q (.ref s.heap.objs.size) { s with heap := h' } := fun its r' hz h' c' kp e =>
    ⟨.ref s.heap.objs.size, _, I.laid (t' := s.toks) kp (Nat.le_refl _) (show ObjOk X.prog X.w _ h' _ (.lst ys) from ⟨hz, its, c', r', e⟩), rfl, q _ (I.hok.fresh (Nat.le_refl _))⟩
  rcases hq with hq | hq
  · obtain ⟨its, r', pl, hz⟩ := I.list hq
    have hlen := r'.length
    obtain ⟨o, ho, hc, n, hd⟩ := pl.isList
    exact call_list_seq p (.inl rfl) ho hc hd (fun h' c' kp e => fin its r' hz h' c' kp e) (by simp only [List.size_toArray] <;> omega)
  · obtain ⟨its, r', pl, hz⟩ := I.tuple hq
    have hlen := r'.length
    obtain ⟨o, ho, hc, n, hd⟩ := pl
    exact call_list_seq p (.inr rfl) ho hc hd (fun h' c' kp e => fin its r' hz h' c' kp e) (by simp only [List.size_toArray] <;> omega)
/-! ### the call of a builtin's method: o.m(..) -/
/-- the value is of that builtin type -/
def tyV (K : PySem.W.Frag) (T : String) (x : V) (H : Hp) : Prop := match x with
  | .str _ => T = "str"
  | .int _ => T = "int"
  | .ref p => (T = "list" ∧ ∃ xs, SqL K H p xs) ∨ (T = "tuple" ∧ ∃ o, K.lookup p = some o ∧ o.cls = .type "tuple" ∧ o.dict = none) ∨
      (T = "dict" ∧ ((∃ kvs, H p = some (.dK kvs)) ∨ ∃ kvs, H p = some (.dT kvs))) ∨ (T = "set" ∧ ∃ S n, H p = some (.set S n))
  | _ => False
theorem tyV_is {pins : List (Addr × Obj)} {σ : St} {H : Hp} {s : Shared} {T : String} {x : V} {v : Value} (I : Inv X pins σ H s) (r : RelV x v) (ty : tyV X.K T x H) :
    s.TypeIs v T ∧ ∀ a, v = .ref a → ∃ ob, s.heap.get? a = some ob ∧ ob.dict = none := by
  cases x with
  | str z =>
    obtain ⟨t, rfl⟩ := r
    cases (show T = "str" from ty)
    exact ⟨typeIs_str s z t, fun _ e => nomatch e⟩
  | int i =>
    obtain ⟨t, rfl⟩ := r
    cases (show T = "int" from ty)
    exact ⟨typeIs_int s i t, fun _ e => nomatch e⟩
  | ref p =>
    cases r
    rcases ty with ⟨rfl, xs, hq⟩ | ⟨rfl, o, hk, hc, hd⟩ | ⟨rfl, hk⟩ | ⟨rfl, S, n, hk⟩
    · obtain ⟨its, _, pl, _⟩ := I.list hq
      refine ⟨pl.isList.typeIs, fun a e => ?_⟩
      cases e
      obtain ⟨o, n, e, c, hd, _⟩ := pl
      exact ⟨o, e, hd⟩
    · refine ⟨⟨o, I.kIn p o hk, hc⟩, fun a e => ?_⟩
      cases e
      exact ⟨o, I.kIn _ o hk, hd⟩
    · have z : ∃ o, s.heap.get? p = some o ∧ o.ExactDict := by
        rcases hk with ⟨kvs, hk⟩ | ⟨kvs, hk⟩
        · obtain ⟨_, _, _, _, o, _, _, e, ex, _⟩ := I.hok p _ hk
          exact ⟨o, e, ex⟩
        · obtain ⟨_, _, _, _, o, _, _, e, ex, _⟩ := I.hok p _ hk
          exact ⟨o, e, ex⟩
      obtain ⟨o, e, ex⟩ := z
      refine ⟨⟨o, e, ex.1⟩, fun a e2 => ?_⟩
      cases e2
      exact ⟨o, e, ex.2.1⟩
    · obtain ⟨o, _, _, _, e, ex, _⟩ := I.hok p _ hk
      refine ⟨⟨o, e, ex.1⟩, fun a e2 => ?_⟩
      cases e2
      exact ⟨o, e, ex.2.1⟩
  | _ => exact False.elim ty
variable {o e : Expr} {es : List Expr} {to : TE} {t : TA} {name : Str} {apos cpos : Pos} {T id : String} {r : V → List V → Hp → VK → Prop}
/- xs.append(e), list.index on a module's tuple .. are MtR facts of 06m -/
end
end L2

namespace L2
open PySem PySem.Spec PyProof.Rows

def MtM (X : Cx) (id : String) (r : V → List V → Hp → VK → Prop) : Prop :=
  ∀ (pins : List (Addr × Obj)) (s : Shared) (σ : St) (H : Hp) (x : V) (xs : List V) (v : Value) (us : List Value) (Q : VK), Inv X pins σ H s → RelV x v → Vals xs us → r x xs H Q →
    wpAny (model X.prog X.w) X.A (call (.builtin id) (v :: us)) (EP X pins σ Q) X.xe s

/-! ### lists of values -/
theorem Vals.one : ∀ {x : V} {us : List Value}, Vals [x] us → ∃ u, us = [u] ∧ RelV x u
  | _, _, .cons r .nil => ⟨_, rfl, r⟩
theorem Vals.zero : ∀ {us : List Value}, Vals [] us → us = []
  | _, .nil => rfl
theorem Vals.dropLast {xs : List V} {us : List Value} (h : Vals xs us) : Vals xs.dropLast us.dropLast := by
  induction h with
  | nil => exact .nil
  | cons r t ih =>
    cases t with
    | nil => exact .nil
    | cons q t' => exact .cons r ih
theorem Vals.eraseIdx : ∀ {xs : List V} {us : List Value} (i : Nat), Vals xs us → Vals (xs.eraseIdx i) (us.eraseIdx i)
  | _, _, _, .nil => .nil
  | _, _, 0, .cons _ t => t
  | _, _, i + 1, .cons r t => .cons r (Vals.eraseIdx i t)
theorem Vals.reverse {xs : List V} {us : List Value} (h : Vals xs us) : Vals xs.reverse us.reverse := by
  induction h with
  | nil => exact .nil
  | cons r t ih => rw [List.reverse_cons, List.reverse_cons]; exact Vals.append ih (.cons r .nil)
theorem Vals.rep {xs : List V} {us : List Value} (h : Vals xs us) : ∀ k : Nat, Vals (List.replicate k xs).flatten (List.replicate k us).flatten
  | 0 => .nil
  | k + 1 => by
    rw [List.replicate_succ, List.replicate_succ, List.flatten_cons, List.flatten_cons]
    exact Vals.append h (Vals.rep h k)
theorem erase_last {α : Type} (l : List α) : l.eraseIdx (l.length - 1) = l.dropLast := by
  induction l with
  | nil => rfl
  | cons a r ih =>
    cases r with
    | nil => rfl
    | cons b r =>
      have e : (a :: b :: r).length - 1 = ((b :: r).length - 1) + 1 := by
        have h1 : (a :: b :: r).length = r.length + 2 := rfl
        have h2 : (b :: r).length = r.length + 1 := rfl
        omega
      rw [e, List.eraseIdx_cons_succ, ih]
      all_goals rfl
theorem foldl_rep (its : List Value) : ∀ (k : Nat) (acc : List Value),
    List.foldl (fun x1 x2 => x1 ++ x2) acc.toArray (List.replicate k its.toArray) = (acc ++ (List.replicate k its).flatten).toArray
  | 0, acc => by simp
  | k + 1, acc => by
    have e : acc.toArray ++ its.toArray = (acc ++ its).toArray := by simp
    have e2 : (acc ++ its) ++ (List.replicate k its).flatten = acc ++ (List.replicate (k + 1) its).flatten := by
      rw [List.replicate_succ, List.flatten_cons, List.append_assoc]
    rw [← e2, ← foldl_rep its k (acc ++ its), ← e, List.replicate_succ, List.foldl_cons]

section
variable {X : Cx} {pins : List (Addr × Obj)} {σ : St} {H : Hp} {s : Shared} {l b : Addr} {xs ys zs : List V}

/-! ### the two steps: a tracked list is rewritten, a new list is laid -/
theorem Inv.lset {its its' : List Value} {n : Nat} {f : Array Value → Array Value} {t' : Nat} (I : Inv X pins σ H s) (hH : H l = some (.lst xs))
    (e : s.heap.get? l = some { cls := .type "list", data := .seq its.toArray n }) (hf : f its.toArray = its'.toArray) (hv : Vals ys its') (hz : ys.length ≤ sizeLine) :
    Inv X pins σ (upd H l (.lst ys)) { s with heap := s.heap.update l (Obj.mapSeq f), toks := t' } := by
  have q := PySem.IsL.update e f
  rw [hf] at q
  refine I.write (x := l) (e := l) (by rw [hH]; exact trivial) (.inl rfl) (fun b' u hb hu => (Heap.get?_update_other s.heap (Obj.mapSeq f) (Ne.symm hb)).trans hu) ⟨_, q⟩ ?_
  exact ⟨hz, its', _, hv, q⟩
theorem Inv.lnew {its : List Value} {t' : Nat} (I : Inv X pins σ H s) (hv : Vals ys its) (hz : ys.length ≤ sizeLine) :
    Inv X pins σ (upd H s.heap.objs.size (.lst ys)) { s with heap := s.heap.push { cls := .type "list", data := .seq its.toArray }, toks := t' } :=
  I.laid (fun _ _ q => Heap.get?_push_of_some _ q) (Nat.le_refl _) ⟨hz, its, 0, hv, Heap.get?_push_size _ rfl⟩
theorem Inv.fresh (I : Inv X pins σ H s) : H s.heap.objs.size = none := I.hok.fresh (Nat.le_refl _)
theorem Inv.lstM (I : Inv X pins σ H s) (hH : H l = some (.lst xs)) : xs.length ≤ sizeLine ∧ ∃ (its : List Value) (n : Nat), Vals xs its ∧ xs.length = its.length ∧ s.heap.get? l = some { cls := .type "list", data := .seq its.toArray n } := by
  obtain ⟨z, its, n, r, e⟩ := I.hok l _ hH
  exact ⟨z, its, n, r, r.length, e⟩

theorem notLongL {n : Nat} (h : n ≤ sizeLine) : Builtin.List.listTooLong n = false := by
  unfold Builtin.List.listTooLong
  exact decide_eq_false (by omega)
end

section
variable {X : Cx}

/-! ### methods -/
def rAppend : V → List V → Hp → VK → Prop := fun x vs H Q => ∃ l xs y, x = .ref l ∧ vs = [y] ∧ H l = some (.lst xs) ∧ xs.length < sizeLine ∧ Q .non (upd H l (.lst (xs ++ [y])))
theorem mt_append : MtM X "list.append" rAppend := by
  intro pins s σ H x vs v us Q I rx rv h
  obtain ⟨l, xs, y, rfl, rfl, hH, hz, q⟩ := h
  cases rx
  obtain ⟨u, rfl, ru⟩ := rv.one
  obtain ⟨z, its, n, r, hl, e⟩ := I.lstM hH
  refine call_meets F.slot_list_append ⟨_, e, rfl⟩ F.entry_list_append (F.args_list_append_2 _ _) (PySem.list_append l its.toArray n u (by rw [List.size_toArray]; omega)) ⟨e, ?_⟩
  refine ⟨.non, _, I.lset (its' := its ++ [u]) hH e (by simp) (r.append (.cons ru .nil)) ?_, rfl, q⟩
  rw [List.length_append, List.length_singleton]
  omega

def rExtend : V → List V → Hp → VK → Prop := fun x vs H Q => ∃ l b xs zs, x = .ref l ∧ vs = [.ref b] ∧ H l = some (.lst xs) ∧ H b = some (.lst zs) ∧ xs.length + zs.length ≤ sizeLine ∧ Q .non (upd H l (.lst (xs ++ zs)))
theorem mt_extend : MtM X "list.extend" rExtend := by
  intro pins s σ H x vs v us Q I rx rv h
  obtain ⟨l, b, xs, zs, rfl, rfl, hH, hB, hz, q⟩ := h
  cases rx
  obtain ⟨u, rfl, ru⟩ := rv.one
  cases ru
  obtain ⟨z, its, n, r, hl, e⟩ := I.lstM hH
  obtain ⟨z2, its2, n2, r2, hl2, e2⟩ := I.lstM hB
  have hsz : its.toArray.size + its2.toArray.size ≤ sizeLine := by rw [List.size_toArray, List.size_toArray]; omega
  have hlong : ¬ (!its.toArray.isEmpty && Builtin.List.listTooLong (its.toArray.size + its2.toArray.size)) = true := by
    rw [notLongL hsz, Bool.and_false]
    exact Bool.false_ne_true
  refine call_meets F.slot_list_extend ⟨_, e, rfl⟩ F.entry_list_extend (F.args_list_extend_2 _ _)
    (AutoSeq1.list_extend_list_list_0 l its.toArray n b its2.toArray n2 hlong (by rw [List.size_toArray]; omega) (by omega)) ⟨e, e2, ?_⟩
  refine ⟨.non, _, I.lset (its' := its ++ its2) hH e (by simp) (r.append r2) ?_, rfl, q⟩
  rw [List.length_append]
  omega

def rPop : V → List V → Hp → VK → Prop := fun x vs H Q => ∃ l xs y, x = .ref l ∧ vs = [] ∧ H l = some (.lst xs) ∧ xs[xs.length - 1]? = some y ∧ Q y (upd H l (.lst xs.dropLast))
theorem mt_pop : MtM X "list.pop" rPop := by
  intro pins s σ H x vs v us Q I rx rv h
  obtain ⟨l, xs, y, rfl, rfl, hH, hy, q⟩ := h
  cases rx
  have hus := rv.zero
  subst hus
  obtain ⟨z, its, n, r, hl, e⟩ := I.lstM hH
  obtain ⟨u, hu, ru⟩ := r.get hy
  have hy' : its.toArray[its.toArray.size - 1]? = some u := by
    show its.toArray[its.length - 1]? = some u
    rw [← Array.getElem?_toList, ← hl]
    exact hu
  refine call_meets F.slot_list_pop ⟨_, e, rfl⟩ F.entry_list_pop (F.args_list_pop_1 _) (MeetsSeq.list_pop_last l its.toArray n u hy' (by rw [List.size_toArray]; omega)) ⟨e, ?_⟩
  refine ⟨y, _, I.lset (its' := its.dropLast) hH e ?_ r.dropLast ?_, ru, q⟩
  · show its.toArray.eraseIdxIfInBounds (its.toArray.size - 1) = its.dropLast.toArray
    rw [List.size_toArray, List.eraseIdxIfInBounds_toArray, erase_last]
  · rw [List.length_dropLast]
    omega

def rReverse : V → List V → Hp → VK → Prop := fun x vs H Q => ∃ l xs, x = .ref l ∧ vs = [] ∧ H l = some (.lst xs) ∧ Q .non (upd H l (.lst xs.reverse))
theorem mt_reverse : MtM X "list.reverse" rReverse := by
  intro pins s σ H x vs v us Q I rx rv h
  obtain ⟨l, xs, rfl, rfl, hH, q⟩ := h
  cases rx
  have hus := rv.zero
  subst hus
  obtain ⟨z, its, n, r, hl, e⟩ := I.lstM hH
  refine call_meets F.slot_list_reverse ⟨_, e, rfl⟩ F.entry_list_reverse (F.args_list_reverse_1 _) (AutoSeq1.list_reverse_list_0 l its.toArray n (by rw [List.size_toArray]; omega)) ⟨e, ?_⟩
  refine ⟨.non, _, I.lset (its' := its.reverse) hH e (by simp) r.reverse ?_, rfl, q⟩
  rw [List.length_reverse]
  omega

/-! ### list + list, list += list, list * int -/
def rCat : R2 := fun x y H Q => ∃ l b xs zs, x = .ref l ∧ y = .ref b ∧ H l = some (.lst xs) ∧ H b = some (.lst zs) ∧ xs.length + zs.length ≤ sizeLine ∧ ∀ p, H p = none → Q (.ref p) (upd H p (.lst (xs ++ zs)))
theorem op_cat : OpR X (binaryOp .Add) rCat := by
  intro pins s σ H x y v u Q I rx ry h
  obtain ⟨l, b, xs, zs, rfl, rfl, hH, hB, hz, q⟩ := h
  cases rx
  cases ry
  obtain ⟨z, its, n, r, hl, e⟩ := I.lstM hH
  obtain ⟨z2, its2, n2, r2, hl2, e2⟩ := I.lstM hB
  refine PySem.P.add_list e e2 ?_ (by rw [List.size_toArray, List.size_toArray]; omega)
  have ea : its.toArray ++ its2.toArray = (its ++ its2).toArray := by simp
  rw [ea]
  exact ⟨.ref _, _, I.lnew (t' := s.toks) (r.append r2) (by rw [List.length_append]; omega), rfl, q _ I.fresh⟩
/-- a list times an int (a negative one is nothing) -/
def rRep : R2 := fun x y H Q => ∃ l k xs, x = .ref l ∧ y = .int k ∧ H l = some (.lst xs) ∧ -(2 ^ 63) ≤ k ∧ k < 2 ^ 63 ∧ xs.length * k.toNat ≤ sizeLine ∧
  ∀ p, H p = none → Q (.ref p) (upd H p (.lst (List.replicate k.toNat xs).flatten))
theorem len_rep {α : Type} (xs : List α) (k : Nat) : (List.replicate k xs).flatten.length = k * xs.length := by
  induction k with
  | zero => simp
  | succ k ih => rw [List.replicate_succ, List.flatten_cons, List.length_append, ih, Nat.succ_mul, Nat.add_comm]
theorem op_rep : OpR X (binaryOp .Mult) rRep := by
  intro pins s σ H x y v u Q I rx ry h
  obtain ⟨l, k, xs, rfl, rfl, hH, h1, h2, hz, q⟩ := h
  cases rx
  obtain ⟨t, rfl⟩ := ry
  obtain ⟨z, its, n, r, hl, e⟩ := I.lstM hH
  have hlen : its.toArray.size * k.toNat ≤ sizeLine := by rw [List.size_toArray, ← hl]; exact hz
  have hcap : ¬ its.toArray.size * k.toNat > (2 ^ 63 - 1) / 8 := by
    have : (sizeLine : Nat) ≤ (2 ^ 63 - 1) / 8 := by decide
    omega
  have hfit : ¬ (!Builtin.List.listFitsIndex k) = true := by
    rw [fitsIndex_both h1 h2]
    exact Bool.false_ne_true
  have hlong : ¬ Builtin.List.listTooLong (its.toArray.size * k.toNat) = true := by
    rw [notLongL hlen]
    exact Bool.false_ne_true
  have hnew : List.foldl (fun x1 x2 => x1 ++ x2) #[] (List.replicate (if its.toArray.isEmpty = true then 0 else k.toNat) its.toArray) = (List.replicate k.toNat its).flatten.toArray := by
    have f0 : ∀ m : Nat, List.foldl (fun x1 x2 => x1 ++ x2) #[] (List.replicate m its.toArray) = (List.replicate m its).flatten.toArray := fun m => by
      have := foldl_rep its m []
      rw [List.nil_append] at this
      exact this
    rw [f0]
    cases its with
    | nil => simp
    | cons a r' => rw [if_neg (by simp)]
  refine wpAny_binaryOp_repeat_ref (T := "list") (U := "int") (by decide) ⟨_, e, rfl⟩ (fun s' => typeIs_int s' k t) noFill_list_mul F.fills_int_mul F.slot_int_rmul repeat_list F.slot_int_index.lookup
    (call_meets F.slot_int_rmul (typeIs_int s k t) F.entry_int_rmul (F.args_int_rmul_2 _ _) (int___rmul___int_list k t l its.toArray n)
      ⟨e, rfl, ⟨_, e, rfl⟩, call_meets F.slot_list_mul ⟨_, e, rfl⟩ F.entry_list_mul (F.args_list_mul_2 _ _) (AutoListH.list___mul___list_int_3 l its.toArray n k t hfit hcap hlong) ⟨e, ?_⟩⟩)
  rw [hnew]
  exact ⟨.ref _, _, I.lnew (t' := s.toks) (r.rep k.toNat) (by rw [len_rep, Nat.mul_comm]; exact hz), rfl, q _ I.fresh⟩

/-! ### del xs[i] -/
end

/-! ### xs[a:b] = ys -/
section
variable {prog : Program} {w : World} {A : Around} {E : Value → Shared → Prop} {s : Shared}
end

section
variable {X : Cx}
end
end L2

namespace Att
open PySem PySem.W PySem.Calls PyProof.Rows

/-! ### the script -/
theorem ints_of_wellAll {P : Params} {h : Heap} : ∀ (ns : List Int) (vs : List Value), WellAll P h vs (ns.map WData.int) → IntsAre vs ns := by
  intro ns
  induction ns with
  | nil =>
    intro vs w
    rw [List.map_nil] at w
    cases w
    exact .nil
  | cons n ns ih =>
    intro vs w
    rw [List.map_cons] at w
    cases w with
    | cons a b =>
      cases a
      exact .cons _ _ (ih _ b)

theorem script_of {l : OpenLaw} {n : Nat} (hn : l.most = some n) {P : Params} {h : Heap} {args : List WData} {vals : List Value}
    (hpre : l.row.toRowW.claim.pre args = true) (hwl : WellAll P h vals args) :
    ∃ a vs ns, vals = [Value.ref a] ∧ args = [WData.list (ns.map WData.int)] ∧ h.get? a = some { cls := .type "list", data := .seq vs.toArray } ∧ IntsAre vs ns ∧ ns.length ≤ n := by
  have hsh : WShape.hasAll [] args [.list .int] = true := (pre_splitW hpre).1
  have hc : l.pre.holds [] { args := args } = true := (pre_splitW hpre).2
  obtain ⟨d, r, rfl, h1, h2⟩ := hasAllW_cons hsh
  obtain rfl := hasAllW_nil h2
  obtain ⟨xs, rfl, h3⟩ := hasW_list h1
  obtain ⟨ns, rfl⟩ := items_int h3
  have hlen : ns.length ≤ n := by
    unfold OpenLaw.pre at hc
    have h4 : (WTm.not (.lt (.lit (.int (n : Int))) (.len (.arg 0)))).holds [] { args := [.list (ns.map .int)] } = true := by
      have h4 := (holds_andW hc).1
      rw [hn] at h4
      exact h4
    have h5 := condW_of h4 (w_not (w_lt w_lit (w_len_list (w_arg rfl))))
    rw [List.length_map] at h5
    refine Nat.le_of_not_lt fun q => ?_
    have q' : (n : Int) < ((ns.length : Nat) : Int) := by omega
    first
      | (rw [decide_eq_true q'] at h5; exact absurd h5 (by decide))
      | (simp at h5; omega)
  cases hwl with
  | cons w1 w2 =>
    cases w2
    cases w1 with
    | list ho hall => exact ⟨_, _, ns, rfl, rfl, ho, ints_of_wellAll ns _ hall, hlen⟩

theorem post_true (l : OpenLaw) (args : List WData) : l.row.toRowW.claim.post args (.bool true) args = true :=
  postW_of (r := l.row.toRowW) (X := (true == true))
    (show WShape.has [] (.bool true) .bool = true by first | rfl | decide | simp [WShape.has, WShape.arms, WShape.armsAll])
    (show (WTm.eq .res (.lit (.bool true))).value [] { args := args, res := some (.bool true), after := args } = some (.bool (true == true)) from w_eq_bool (w_res rfl) w_lit) rfl

/-! ### the attachment: holds_open's last premise (the goal 'hc' behind k_head) from a wpAny of the law's body -/
/-- the same from a codeAny of the CALL (for a layer whose function contracts speak of calls) -/
theorem attach_call {l : OpenLaw} {n : Nat} {q : Program} {loose : List Str} {XP : (Str → Option Value) → Heap → Prop} {YP : World → Heap → Prop} {d : DefRec}
    (hn : l.most = some n) (hdf : d.params.defaults = [])
    (call : ∀ (w : World) (s₀ s₁ : Shared) (mg mb : Str → Option Value) (fa : Addr) (o : Obj) (pm cd doc : Value) (a : Addr) (vs : List Value) (ns : List Int),
      Ground q loose [] XP w s₀ mg mb s₁.heap → YP w s₁.heap →
      s₁.heap.get? fa = some o → o.data = .func (docDef d.name d.params d.body d.scope pm cd doc) → s₁.heap.CodeRec cd d.name → mg d.name = some (.ref fa) →
      s₁.heap.get? a = some { cls := .type "list", data := .seq vs.toArray } → IntsAre vs ns → ns.length ≤ n → s₁.gens = #[] →
      codeAny (model l.prog w) callerA (.call (.ref fa) ⟨[.ref a], []⟩) (fun r s' => r = .ok (.ret (.bool true)) ∧ OldK s₁.heap s'.heap ∧ s'.os = s₁.os ∧ AllBare s'.gens) s₁) :
    WalkO q loose XP YP l.row.toRowW d [] (fun f vs => PySem.call f vs) := by
  intro w s₀ s₁ mg mb G Y fa o pm cd doc dV kV ho hd hcd hD hmg hg args vals as hpre hlay hrd hwl hlo
  obtain rfl : dV = .none := Dflts.none hD hdf
  obtain rfl : kV = .none := Dflts.noKw hD
  obtain ⟨a, vs, ns, rfl, rfl, hobj, hints, hlen⟩ := script_of hn hpre hwl
  refine enter_call (codeAny_mono (call w s₀ s₁ mg mb fa o pm cd doc a vs ns G Y ho (fd_plain hd) hcd hmg hobj hints hlen hg) fun r s' hq => ?_)
  obtain ⟨rfl, h2, h3, h4⟩ := hq
  exact ⟨.inl ⟨.bool true, .bool true, [], rfl, fun _ => rfl, .bool true, post_true l _, fun _ => ⟨List.Pairwise.nil, fun _ hm => (nomatch hm)⟩⟩, h2, h3, h4⟩

/-! ### rules over ANY heap (no ledger) from facts about the written part K: the library's own take a ledger (News) for what they write -/
section
variable {prog : Program} {w : World} {A : Around} {E : Value → Shared → Prop} {s : Shared} {K : Frag}

/-! the whole heap as the ledger: makes every rule that writes through a ledger a rule over any heap -/
def ledger (h : Heap) (L d : Addr) : List (Addr × Obj) := (List.range h.objs.size).filterMap fun a => if a = L ∨ a = d then none else (h.get? a).map fun o => (a, o)
end
end Att

namespace L2
open PySem PySem.Spec PyProof.Rows

theorem vals_ints : ∀ {vs : List Value} {ns : List Int}, IntsAre vs ns → Vals (ns.map V.int) vs
  | _, _, .nil => .nil
  | _, _, .cons n t h => .cons ⟨t, rfl⟩ (vals_ints h)

/-- nothing is tracked but the script, known to the object (or it is an object of the module) -/
def Only (H : Hp) : Prop := ∀ b, H b = none ∨ ∃ o xs, H b = some (.frz o (.lst xs))

/-- THE HEAD: the law's promise, at the heap behind the top. F, the promise of the law's def, may use that base is part of the heap (so K.In base, base.Ns mainGlobals mg stand in Mod) -/
theorem law_call {P : Program} {w : World} {K : PySem.W.Frag} {mg mb : Str → Option Value} {CX : CXT} {k : Nat} {fa a : Addr} {fd : FuncData} {x : Str} {sp : Sp} {s₁ : Shared} {vs : List Value} {ns : List Int}
    (KX : K.In s₁.heap) (hns : s₁.heap.Ns mainGlobals mg) (hb : s₁.heap.Ns builtinsNs mb) (hbb : ∀ x : Str, x ≠ "__name__" → mb x = bootBuiltins x) (hlim : s₁.heap.NoLimit) (hg : s₁.gens = #[])
    (ha : s₁.heap.get? a = some { cls := .type "list", data := .seq vs.toArray }) (hi : IntsAre vs ns) (hl : ns.length ≤ sizeLine) (hr : Room k callerA)
    (F : ∀ base : Heap, K.In base → base.Ns mainGlobals mg → FnOk P w K mg base CX k fa fd [x] sp) (hbind : ∀ (s : Shared) (u : Value), BindsTo s fd ⟨[u], []⟩ [(x, u)])
    (hsp : ∀ H : Hp, Only H → SqL K H a (ns.map V.int) → sp [.ref a] H (fun v _ => v = .bl true) fun _ _ _ => False)
    (hCX : ∀ H e s', CX [] H s₁ (fun _ _ _ => False) e s' → False) :
    codeAny (model P w) callerA (.call (.ref fa) ⟨[.ref a], []⟩) (fun r s' => r = .ok (.ret (.bool true)) ∧ OldK s₁.heap s'.heap ∧ s'.os = s₁.os ∧ AllBare s'.gens) s₁ := by
  have rv := vals_ints hi
  have lenV := hi.length
  -- from an abstract heap in which nothing but the script may be tracked
  have core : ∀ H : Hp, Only H → SqL K H a (ns.map V.int) → HOk P w H s₁.heap → (∀ b, H b ≠ none → b = a) → (H a ≠ none → K.lookup a = none) →
      codeAny (model P w) callerA (.call (.ref fa) ⟨[.ref a], []⟩) (fun r s' => r = .ok (.ret (.bool true)) ∧ OldK s₁.heap s'.heap ∧ s'.os = s₁.os ∧ AllBare s'.gens) s₁ := by
    intro H hO hS hok hA hK
    have base_of : ∀ {b : Addr} {o : Obj}, s₁.heap.get? b = some o → H b = none → (hidT s₁.heap H).get? b = some o := fun e n => hidT_get e n
    have noA : ∀ {b : Addr} {o : Obj} {es : Array DictEntry} {ep : Nat}, s₁.heap.get? b = some o → o.data = .dict es ep → H b = none := fun {b o es ep} e d => by
      cases q : H b with
      | none => rfl
      | some u =>
        have e' : b = a := hA b (by rw [q]; simp)
        subst e'
        rw [ha] at e; cases e
        have d' : Data.seq vs.toArray _ = Data.dict es ep := d
        cases d'
    have nsK : ∀ {b : Addr} {m : Str → Option Value}, s₁.heap.Ns b m → (hidT s₁.heap H).Ns b m := fun {b m} ⟨o, es, ep, e, d, r⟩ => ⟨o, es, ep, base_of e (noA e d), d, r⟩
    have hKb : K.In (hidT s₁.heap H) := fun b o e => base_of (KX b o e) (by
      cases q : H b with
      | none => rfl
      | some u =>
        have e' : b = a := hA b (by rw [q]; simp)
        subst e'
        rw [hK (by rw [q]; simp)] at e; cases e)
    have hM : Mod K mg (hidT s₁.heap H) := ⟨hKb, nsK hns, ⟨mb, nsK hb, hbb⟩, let ⟨mc, h1, h2⟩ := hlim; ⟨mc, nsK h1, h2⟩⟩
    have e0 : Env0 P w K mg (hidT s₁.heap H) callerA [] s₁ H := ⟨rfl, hM, fun b o e => of_hidT e, Nat.le_of_eq (hidT_size _ _), trivial, fun b hb => absurd (show b ∈ ([] : List Addr) from hb) (by simp), hok, .of_eq hg⟩
    refine codeAny_mono ((F _ hKb (nsK hns)).run callerA [] s₁ H ⟨[.ref a], []⟩ [.ref a] [.ref a] _ _ hr e0 (hbind s₁ (.ref a)) (.cons rfl .nil) (hsp H hO hS)) fun r s' h => ?_
    cases r with
    | error e => exact (hCX H e s' h).elim
    | ok fl =>
      cases fl with
      | next => exact False.elim h
      | brk => exact False.elim h
      | cont => exact False.elim h
      | ret u =>
        obtain ⟨v, H', os, bare, un, hok', r', q⟩ := h
        have q' : v = .bl true := q
        subst q'
        obtain rfl : u = Value.bool true := r'
        refine ⟨rfl, OldK.of_keep fun b o e => ?_, os, bare⟩
        cases q : H b with
        | none => exact un.keep b o e q (by intro z; exact absurd (show b ∈ ([] : List Addr) from z) (by simp)) (by simp)
        | some u =>
          rcases hO b with z | ⟨ob, xs, z⟩
          · rw [q] at z; cases z
          · have z2 := un.frzs b ob _ z
            obtain ⟨e1, _⟩ := hok b _ z
            obtain ⟨e2, _⟩ := hok' b _ z2
            rw [e] at e1; cases e1
            exact e2
  cases hk : K.lookup a with
  | some o =>
    -- the script is one of the module's own objects
    have e := KX a o hk
    rw [ha] at e
    cases e
    refine core (fun _ => none) (fun _ => .inl rfl) (.inr ⟨_, vs.toArray, _, hk, rfl, rfl, rfl, by rw [List.size_toArray, lenV]; exact hl, by simpa using rv⟩) (fun b u z => by have z' : (none : Option HO) = some u := z; cases z') (fun b z => absurd rfl z) fun z => absurd rfl z
  | none =>
    refine core (fun b => if b = a then some (.frz { cls := .type "list", data := .seq vs.toArray } (.lst (ns.map V.int))) else none) (fun b => ?_) (.inl (.inr ⟨{ cls := .type "list", data := .seq vs.toArray }, if_pos rfl⟩)) (fun b u z => ?_) (fun b z => ?_) fun _ => hk
    · by_cases hb : b = a
      · exact .inr ⟨_, _, if_pos hb⟩
      · exact .inl (if_neg hb)
    · by_cases hb : b = a
      · have z' := (if_pos hb).symm.trans z
        cases z'
        subst hb
        exact ⟨ha, by rw [List.length_map]; exact hl, vs, _, rv, ha⟩
      · have z' := (if_neg hb).symm.trans z
        cases z'
    · by_cases hb : b = a
      · exact hb
      · exact absurd (if_neg hb) z
end L2

namespace L2
open PySem PySem.Spec PyProof.Rows

/-- the goal that k_head leaves (case hc), from the law's promise. F gives the function object fd (K's own) once, then the promise over every base -/
theorem walk_of {l : PySem.W.OpenLaw} {n k : Nat} {q : Program} {loose : List Str} {XP : (Str → Option Value) → Heap → Prop} {YP : World → Heap → Prop} {d : DefRec} {K : Params → PySem.W.Frag} {CX : World → CXT} {sp : World → Sp} {x : Str}
    (hn : l.most = some n) (hn2 : n ≤ sizeLine) (hdf : d.params.defaults = []) (hr : Room k callerA)
    (hY : ∀ (w : World) (h : Heap), YP w h → (K w.params).In h)
    (F : ∀ (w : World) (mg : Str → Option Value) (fa : Addr) (h : Heap), (K w.params).In h → h.Ns mainGlobals mg → mg d.name = some (.ref fa) →
      ∃ fd : FuncData, (∀ (s : Shared) (u : Value), BindsTo s fd ⟨[u], []⟩ [(x, u)]) ∧
        ∀ base : Heap, (K w.params).In base → base.Ns mainGlobals mg → FnOk l.prog w (K w.params) mg base (CX w) k fa fd [x] (sp w))
    (hsp : ∀ (w : World) (H : Hp) (a : Addr) (ns : List Int), ns.length ≤ n → Only H → SqL (K w.params) H a (ns.map V.int) → sp w [.ref a] H (fun v _ => v = .bl true) fun _ _ _ => False)
    (hCX : ∀ (w : World) (H : Hp) (s : Shared) (e : Value) (s' : Shared), CX w [] H s (fun _ _ _ => False) e s' → False) :
    PySem.W.WalkO q loose XP YP l.row.toRowW d [] (fun f vs => PySem.call f vs) := by
  refine Att.attach_call hn hdf fun w s₀ s₁ mg mb fa o pm cd doc a vs ns G Y ho hd hcd hmg hobj hints hlen hg => ?_
  have KX := hY w _ Y
  obtain ⟨fd, hb, hF⟩ := F w mg fa _ KX G.T.g hmg
  exact law_call KX G.T.g G.T.b G.T.builtins G.T.nolimit hg hobj hints (Nat.le_trans hlen hn2) hr hF hb (fun H hO hS => hsp w H a ns hlen hO hS) fun H e s' => hCX w H s₁ e s'
end L2

/-! SHORT WORDS over the layer: a def of the text, its body, what a loop and a test want. -/
namespace L2
open PySem PySem.Spec PyProof.Rows

/-! ### the text by places -/
def defArgs (s : Stmt) : Arguments := match s with
  | .FunctionDef _ a _ _ _ _ _ _ _ _ => a
  | _ => { posonlyargs := [], args := [], vararg := none, kwonlyargs := [], kw_defaults := [], kwarg := none, defaults := [] }
def defBody (s : Stmt) : List Stmt := match s with
  | .FunctionDef _ _ b _ _ _ _ _ _ _ => b
  | _ => []
def defScope (s : Stmt) : Scope := match s with
  | .FunctionDef _ _ _ _ _ _ sc _ _ _ => sc
  | _ => { kind := .function, names := [], isGenerator := false, isCoroutine := false }

/-! ### no exception leaves a def -/
abbrev CX0 : CXT := fun _ _ _ _ _ _ => False
abbrev E0 : XK := fun _ _ _ => False
theorem pass0 {X : Cx} : Passes CX0 X E0 := fun _ _ _ _ _ _ _ h => h.elim

/-! ### a def (or method) of the text as it stands behind the top -/
structure Fun (K : PySem.W.Frag) (x qual : Str) (st : Stmt) (f : Addr) (fd : FuncData) : Prop where
  ex : ∃ (oc : Value) (od : Option Addr) (kV doc pm : Value) (an : Option Addr) (cdv ct : Value) (osl : Array (Option Value)),
    fd = PySem.W.fnOf x qual (defArgs st) (defBody st) (defScope st) .none kV doc pm an cdv ct ∧ K.lookup f = some ⟨oc, od, .func fd, osl⟩ ∧ PySem.W.codeIn K cdv qual = true
  kp : PySem.W.keepIn K (.ref f) = true
section
variable {P : Program} {w : World} {K : PySem.W.Frag} {mg : Str → Option Value} {base : Heap}
/-- THE RULE for a def: its body as a term of rules, and the reading of that term -/
theorem Fun.ok {x qual : Str} {st : Stmt} {f : Addr} {fd : FuncData} {N ps : List Str} {k : Nat} {sp : Sp} (F : Fun K x qual st f fd) (S : FnScope N ps (defScope st)) (len : ∀ vs H Q E, sp vs H Q E → vs.length = ps.length)
    (hbody : ∀ (cdv : Value) (A : Around) (outer : List Env) (s : Shared) (H : Hp) (vs : List V) (Q : VK) (E : XK), Room k (A.deeper (envOfC qual (defScope st) s.heap.objs.size f cdv)) → sp vs H Q E →
      ∃ t, PSs (cxOf CX0 P w K mg base N qual (defScope st) f cdv A outer s H E).nox (defBody st) t ∧ t { nx := fun _ H' => Q .non H', rt := Q } (start N vs) H) : FnOk P w K mg base CX0 (k + 1) f fd ps sp := by
  obtain ⟨oc, od, kV, doc, pm, an, cdv, ct, osl, rfl, lk, hcd⟩ := F.ex
  refine fn_of lk hcd S len fun A outer s H vs Q E hr hsp => ?_
  obtain ⟨t, h, q⟩ := hbody cdv A outer s H vs Q E hr hsp
  exact ⟨t, h.nox, q⟩
/-- how its arguments bind (no defaults): h is «fun _ _ _ _ _ _ us hl => match us, hl with | [_, _], _ => rfl», one _ a parameter -/
theorem Fun.binds {x qual : Str} {st : Stmt} {f : Addr} {fd : FuncData} {ps : List Str} (F : Fun K x qual st f fd)
    (h : ∀ (kV doc pm : Value) (an : Option Addr) (cdv ct : Value) (us : List Value), us.length = ps.length → bindArgs (PySem.W.fnOf x qual (defArgs st) (defBody st) (defScope st) .none kV doc pm an cdv ct) ⟨us, []⟩ = pure (ps.zip us)) : Binds K fd ps [] := by
  obtain ⟨oc, od, kV, doc, pm, an, cdv, ct, osl, rfl, lk, hcd⟩ := F.ex
  exact .all (h kV doc pm an cdv ct)
theorem fun_mk {x qual : Str} {st : Stmt} {f : Addr} {oc : Value} {od an : Option Addr} {osl : Array (Option Value)} {kV doc pm cdv ct : Value} (l : K.lookup f = some ⟨oc, od, .func (PySem.W.fnOf x qual (defArgs st) (defBody st) (defScope st) .none kV doc pm an cdv ct), osl⟩)
    (c : PySem.W.codeIn K cdv qual = true) (k : PySem.W.keepIn K (.ref f) = true) : Fun K x qual st f (PySem.W.fnOf x qual (defArgs st) (defBody st) (defScope st) .none kV doc pm an cdv ct) := ⟨⟨oc, od, kV, doc, pm, an, cdv, ct, osl, rfl, l, c⟩, k⟩
end
/-! ### expressions in short: the name that stands in the i-th slot -/
section
variable {X : Cx}
end

/-! ### tests -/
theorem iteF {A B : Prop} (h : B) : if false = true then A else B := by
  rw [if_neg Bool.false_ne_true]
  exact h
theorem iteT {A B : Prop} (h : A) : if true = true then A else B := by
  rw [if_pos rfl]
  exact h
/-! ### heaps -/
/-- all that was tracked is as it was -/
def Same (H H' : Hp) : Prop := ∀ b o, H b = some o → H' b = some o
theorem Same.refl (H : Hp) : Same H H := fun _ _ h => h
theorem Same.trans {H H1 H2 : Hp} (a : Same H H1) (b : Same H1 H2) : Same H H2 := fun c o h => b c o (a c o h)
theorem Same.free {H H' : Hp} (e : Same H H') {l : Addr} (h : H' l = Option.none) : H l = Option.none := by
  cases q : H l with
  | none => rfl
  | some o =>
    rw [e l o q] at h
    cases h
theorem Same.seq {K : PySem.W.Frag} {H H' : Hp} {a : Addr} {xs : List V} (e : Same H H') (h : SqL K H a xs) : SqL K H' a xs := by
  rcases h with (h | ⟨o, h⟩) | h
  · exact .inl (.inl (e _ _ h))
  · exact .inl (.inr ⟨o, e _ _ h⟩)
  · exact .inr h

end L2

set_option Elab.async false
set_option linter.all false
set_option maxRecDepth 100000
set_option maxHeartbeats 1000000
namespace L2
open PySem PySem.Spec PyProof.Rows

/-! ### branches that do not unfold -/
@[irreducible] def br (c : Bool) (A B : Prop) : Prop := if c = true then A else B
section
variable {A B p : Prop} {c : Bool}
theorem br_iff : br c A B = (if c = true then A else B) := by unfold br; rfl
theorem br_T (h : A) : br true A B := by unfold br; exact iteT h
theorem br_F (h : B) : br false A B := by unfold br; exact iteF h
theorem br_any (h1 : c = true → A) (h2 : c = false → B) : br c A B := by
  cases c with
  | true => exact br_T (h1 rfl)
  | false => exact br_F (h2 rfl)
theorem br_dec [Decidable p] (h1 : p → A) (h2 : ¬ p → B) : br (decide p) A B := br_any (fun h => h1 (of_decide_eq_true h)) fun h => h2 (of_decide_eq_false h)
theorem br_dT [Decidable p] (hp : p) (h : A) : br (decide p) A B := br_dec (fun _ => h) fun n => absurd hp n
theorem br_dF [Decidable p] (hp : ¬ p) (h : B) : br (decide p) A B := br_dec (fun n => absurd n hp) fun _ => h
theorem br_not (h : br c B A) : br (!c) A B := by
  cases c with
  | true => unfold br at h ⊢; simpa using h
  | false => unfold br at h ⊢; simpa using h
end

/-! ### heaps -/
/-- all but a is as it was -/
def Chg (a : Addr) (H H' : Hp) : Prop := ∀ b o, b ≠ a → H b = some o → H' b = some o
theorem Chg.upd {H : Hp} {a : Addr} {o : HO} : Chg a H (upd H a o) := fun b u hb e => by rw [upd_ne hb]; exact e
theorem Same.upd {H : Hp} {a : Addr} {o : HO} (h : H a = none) : Same H (L2.upd H a o) := fun b u e => by rw [upd_ne (ne_of_none e h)]; exact e
theorem Same.chg {H0 H H' : Hp} {a : Addr} (s : Same H0 H) (n : H0 a = none) (c : Chg a H H') : Same H0 H' := fun b o e => c b o (ne_of_none e n) (s b o e)
theorem Chg.refl (a : Addr) (H : Hp) : Chg a H H := fun _ _ _ e => e
theorem Chg.trans {H H1 H2 : Hp} {a : Addr} (x : Chg a H H1) (y : Chg a H1 H2) : Chg a H H2 := fun b o h e => y b o h (x b o h e)
theorem Chg.same {H H1 H2 : Hp} {a : Addr} (x : Chg a H H1) (y : Same H1 H2) : Chg a H H2 := fun b o h e => y b o (x b o h e)
theorem Same.toChg {H H1 : Hp} {a : Addr} (x : Same H H1) : Chg a H H1 := fun b o _ e => x b o e
theorem Same.at {H H' : Hp} {b : Addr} {o : HO} (s : Same H H') (e : H b = some o) : H' b = some o := s b o e
theorem Chg.at {H H' : Hp} {a b : Addr} {o : HO} (s : Chg a H H') (e : H b = some o) (n : b ≠ a) : H' b = some o := s b o n e
/-! ### names -/
def qV (i : Nat) : TE := fun σ H Q => match σ[i]? with
  | some (some v) => Q v H
  | _ => False
section
variable {X : Cx}
theorem pq (i : Nat) {x : Str} {pos : Pos} (hN : X.N[i]? = some x := by rfl) (hv : Vis X.env.scope x := by first | exact Or.inl rfl | exact Or.inr (Or.inl rfl) | exact Or.inr (Or.inr rfl)) (hd : (x == ("__debug__" : Str)) = false := by decide)
    (hcd : (x == ("__classdict__" : Str)) = false := by decide) : PE X (.Name x pos) (qV i) := fun pins s σ H Q I h => by
  refine pe_var hN hv hd hcd pins s σ H Q I ?_
  unfold qV at h
  split at h
  · rename_i v e
    exact ⟨v, e, h⟩
  · exact h.elim

/-! ### arithmetic -/
@[irreducible] def rMulI (i j : Int) (H : Hp) (Q : VK) : Prop := IntMulOk i j ∧ Q (.int (i * j)) H
@[irreducible] def rDivI (i j : Int) (H : Hp) (Q : VK) : Prop := (j ≠ 0 ∧ j.natAbs.log2 < 9000) ∧ Q (.int (i.fdiv j)) H
@[irreducible] def rModI (i j : Int) (H : Hp) (Q : VK) : Prop := j ≠ 0 ∧ Q (.int (i.fmod j)) H
@[irreducible] def rPowI (i j : Int) (H : Hp) (Q : VK) : Prop := CPow i j ∧ Q (.int (i ^ j.toNat)) H
@[irreducible] def rCatL (a b : Addr) (H : Hp) (Q : VK) : Prop := ∃ xs zs, H a = some (.lst xs) ∧ H b = some (.lst zs) ∧ xs.length + zs.length ≤ sizeLine ∧
  ∀ p H', H p = none → Same H H' → H' p = some (.lst (xs ++ zs)) → Q (.ref p) H'
@[irreducible] def rRepL (a : Addr) (k : Int) (H : Hp) (Q : VK) : Prop := ∃ xs, H a = some (.lst xs) ∧ -(2 ^ 63) ≤ k ∧ k < 2 ^ 63 ∧ xs.length * k.toNat ≤ sizeLine ∧
  ∀ p H', H p = none → Same H H' → H' p = some (.lst (List.replicate k.toNat xs).flatten) → Q (.ref p) H'
def rAddM : R2 := fun x y H Q => match x, y with
  | .int i, .int j => Q (.int (i + j)) H
  | .ref a, .ref b => rCatL a b H Q
  | .str a, .str b => a.length + b.length ≤ sizeLine ∧ Q (.str (a ++ b)) H
  | _, _ => False
def rSubM : R2 := fun x y H Q => match x, y with
  | .int i, .int j => Q (.int (i - j)) H
  | _, _ => False
def rMulM : R2 := fun x y H Q => match x, y with
  | .int i, .int j => rMulI i j H Q
  | .ref a, .int k => rRepL a k H Q
  | _, _ => False
def rDivM : R2 := fun x y H Q => match x, y with
  | .int i, .int j => rDivI i j H Q
  | _, _ => False
def rModM : R2 := fun x y H Q => match x, y with
  | .int i, .int j => rModI i j H Q
  | _, _ => False
def rPowM : R2 := fun x y H Q => match x, y with
  | .int i, .int j => rPowI i j H Q
  | _, _ => False
theorem oAdd : OpR X (binaryOp .Add) rAddM := by
  intro pins s σ H x y v u Q I rx ry h
  unfold rAddM at h
  split at h
  · exact op_add pins s σ H _ _ v u Q I rx ry ⟨_, _, rfl, rfl, h⟩
  · unfold rCatL at h
    obtain ⟨xs, zs, h1, h2, h3, h4⟩ := h
    exact op_cat pins s σ H _ _ v u Q I rx ry ⟨_, _, xs, zs, rfl, rfl, h1, h2, h3, fun p hp => h4 p _ hp (Same.upd hp) upd_same⟩
  · exact op_add_str pins s σ H _ _ v u Q I rx ry ⟨_, _, rfl, rfl, h.1, h.2⟩
  · exact h.elim
theorem oSub : OpR X (binaryOp .Sub) rSubM := by
  intro pins s σ H x y v u Q I rx ry h
  unfold rSubM at h
  split at h
  · exact op_sub pins s σ H _ _ v u Q I rx ry ⟨_, _, rfl, rfl, h⟩
  · exact h.elim
theorem oMul : OpR X (binaryOp .Mult) rMulM := by
  intro pins s σ H x y v u Q I rx ry h
  unfold rMulM at h
  split at h
  · unfold rMulI at h
    obtain ⟨t, rfl⟩ := rx
    obtain ⟨t', rfl⟩ := ry
    exact mul_int ⟨.int _, H, I.tok _, ⟨_, rfl⟩, h.2⟩ h.1
  · unfold rRepL at h
    obtain ⟨xs, h1, h2, h3, h4, h5⟩ := h
    exact op_rep pins s σ H _ _ v u Q I rx ry ⟨_, _, xs, rfl, rfl, h1, h2, h3, h4, fun p hp => h5 p _ hp (Same.upd hp) upd_same⟩
  · exact h.elim
theorem oDiv : OpR X (binaryOp .FloorDiv) rDivM := by
  intro pins s σ H x y v u Q I rx ry h
  unfold rDivM at h
  split at h
  · unfold rDivI at h
    obtain ⟨⟨h1, h2⟩, h3⟩ := h
    obtain ⟨t, rfl⟩ := rx
    obtain ⟨t', rfl⟩ := ry
    exact floordiv_int h1 ⟨.int _, H, I.tok _, ⟨_, rfl⟩, h3⟩ (.inl (PyProof.noPylong_of_log2 h2))
  · exact h.elim
theorem oMod : OpR X (binaryOp .Mod) rModM := by
  intro pins s σ H x y v u Q I rx ry h
  unfold rModM at h
  split at h
  · unfold rModI at h
    exact op_modN pins s σ H _ _ v u Q I rx ry ⟨_, _, rfl, rfl, h.1, h.2⟩
  · exact h.elim
theorem oPow : OpR X (binaryOp .Pow) rPowM := by
  intro pins s σ H x y v u Q I rx ry h
  unfold rPowM at h
  split at h
  · unfold rPowI at h
    exact op_pow pins s σ H _ _ v u Q I rx ry ⟨_, _, rfl, rfl, h.1, h.2⟩
  · exact h.elim
def rNegM : V → Hp → VK → Prop := fun x H Q => match x with
  | .int i => Q (.int (-i)) H
  | _ => False
theorem uNeg : UnR X (unaryOp .USub) rNegM := by
  intro pins s σ H x v Q I rx h
  unfold rNegM at h
  split at h
  · exact un_neg pins s σ H _ v Q I rx ⟨_, rfl, h⟩
  · exact h.elim

/-! how they are read -/
section
variable {i j : Int} {H : Hp} {Q : VK}
theorem mul_rd (h : IntMulOk i j) (q : Q (.int (i * j)) H) : rMulI i j H Q := by unfold rMulI; exact ⟨h, q⟩
theorem log2_lt {n k : Nat} (h : n < 2 ^ k) (hk : 0 < k) : n.log2 < k := by
  by_cases h0 : n = 0
  · subst h0; simpa using hk
  · exact (Nat.log2_lt h0).mpr h
theorem big9000 {j : Int} (h1 : -(10 ^ 240) < j) (h2 : j < 10 ^ 240) : j.natAbs < 2 ^ 2000 := by
  have e : (10 : Int) ^ 240 = ((10 ^ 240 : Nat) : Int) := by norm_cast
  have e2 : (10 : Nat) ^ 240 < 2 ^ 2000 := by decide +kernel
  rw [e] at h1 h2
  generalize hN : (10 : Nat) ^ 240 = N at h1 h2 e2
  generalize hM : (2 : Nat) ^ 2000 = M at e2
  omega
theorem mulOk_of (h1 : -(10 ^ 240) < i) (h2 : i < 10 ^ 240) (h3 : -(10 ^ 240) < j) (h4 : j < 10 ^ 240) : IntMulOk i j := by
  have f : ∀ {k : Int}, -(10 ^ 240) < k → k < 10 ^ 240 → Builtin.Int.intBits k ≤ 2 ^ 20 := fun {k} a b => by
    have h := log2_lt (big9000 a b) (by decide)
    unfold Builtin.Int.intBits
    have e : (2 : Nat) ^ 20 = 1048576 := by decide
    rw [e]
    split <;> omega
  exact .of_bits (f h1 h2) (f h3 h4)
theorem div_rd (h1 : 0 < j) (h2 : j < 10 ^ 240) (q : Q (.int (i / j)) H) : rDivI i j H Q := by
  unfold rDivI
  refine ⟨⟨by omega, ?_⟩, ?_⟩
  · have h := log2_lt (big9000 (j := j) (by have : (0 : Int) < 10 ^ 240 := by decide +kernel
                                            generalize (10 : Int) ^ 240 = N at this; omega) h2) (by decide)
    omega
  · rw [Int.fdiv_eq_ediv_of_nonneg _ (by omega)]; exact q
theorem mod_rd (h1 : 0 < j) (q : Q (.int (i % j)) H) : rModI i j H Q := by
  unfold rModI
  refine ⟨by omega, ?_⟩
  rw [Int.fmod_eq_emod_of_nonneg _ (by omega)]; exact q
theorem pow_rd (h : CPow i j) (q : Q (.int (i ^ j.toNat)) H) : rPowI i j H Q := by unfold rPowI; exact ⟨h, q⟩
theorem cat_rd {a b : Addr} {xs zs : List V} (h1 : H a = some (.lst xs)) (h2 : H b = some (.lst zs)) (h3 : xs.length + zs.length ≤ sizeLine)
    (q : ∀ p H', H p = none → Same H H' → H' p = some (.lst (xs ++ zs)) → Q (.ref p) H') : rCatL a b H Q := by unfold rCatL; exact ⟨xs, zs, h1, h2, h3, q⟩
end

/-! ### comparisons -/
def rLtM : R2 := fun x y H Q => match x, y with
  | .int i, .int j => Q (.bl (decide (i < j))) H
  | _, _ => False
def rLeM : R2 := fun x y H Q => match x, y with
  | .int i, .int j => Q (.bl (decide (i ≤ j))) H
  | _, _ => False
def rGtM : R2 := fun x y H Q => match x, y with
  | .int i, .int j => Q (.bl (decide (j < i))) H
  | _, _ => False
theorem oLt : OpR X (compareOp .Lt) rLtM := by
  intro pins s σ H x y v u Q I rx ry h
  unfold rLtM at h
  split at h
  · exact op_lt pins s σ H _ _ v u Q I rx ry ⟨_, _, rfl, rfl, h⟩
  · exact h.elim
theorem oLe : OpR X (compareOp .LtE) rLeM := by
  intro pins s σ H x y v u Q I rx ry h
  unfold rLeM at h
  split at h
  · exact op_le pins s σ H _ _ v u Q I rx ry ⟨_, _, rfl, rfl, h⟩
  · exact h.elim
theorem oGt : OpR X (compareOp .Gt) rGtM := by
  intro pins s σ H x y v u Q I rx ry h
  unfold rGtM at h
  split at h
  · exact op_gt pins s σ H _ _ v u Q I rx ry ⟨_, _, rfl, rfl, h⟩
  · exact h.elim
/-- == of two things, to a depth n -/
inductive EqR (K : PySem.W.Frag) (H : Hp) : Nat → V → V → Bool → Prop where
  | flat {n : Nat} {x y : V} (fx : flatV x = true) (fy : flatV y = true) : EqR K H n x y (eqV x y)
  | tup {n : Nat} {a b : Addr} {xs ys : List V} (e : Nat → Bool) (ha : SqT K H a xs) (hb : SqT K H b ys) (h : ∀ (j : Nat) (x y : V), xs[j]? = some x → ys[j]? = some y → EqR K H n x y (e j)) :
      EqR K H (n + 1) (.ref a) (.ref b) ((List.range (min xs.length ys.length)).all e && xs.length == ys.length)
  | lst {n : Nat} {a b : Addr} {xs ys : List V} (e : Nat → Bool) (ha : SqL K H a xs) (hb : SqL K H b ys) (hl : xs.length = ys.length) (h : ∀ (j : Nat) (x y : V), xs[j]? = some x → ys[j]? = some y → EqR K H n x y (e j)) :
      EqR K H (n + 1) (.ref a) (.ref b) ((List.range xs.length).all e)
  | lstN {n : Nat} {a b : Addr} {xs ys : List V} (ha : SqL K H a xs) (hb : SqL K H b ys) (hl : xs.length ≠ ys.length) : EqR K H (n + 1) (.ref a) (.ref b) false
theorem eqV_self {x : V} (f : flatV x = true) : eqV x x = true := by
  cases x <;> first | rfl | (simp [eqV]; done) | exact absurd (show false = true from f) Bool.false_ne_true
section
variable {pins : List (Addr × Obj)} {σ : St} {H : Hp} {s : Shared}
theorem EqR.self (I : Inv X pins σ H s) {n : Nat} {x y : V} {b : Bool} (h : EqR X.K H n x y b) : x = y → b = true := by
  induction h with
  | flat fx fy => rintro rfl; exact eqV_self fx
  | tup e ha hb h ih =>
    intro q
    cases q
    have q := I.tuple_inj ha hb
    subst q
    rw [Nat.min_self, Bool.and_eq_true]
    refine ⟨List.all_eq_true.mpr fun j hj => ?_, by simp⟩
    have hj := List.mem_range.mp hj
    exact ih j _ _ (List.getElem?_eq_getElem hj) (List.getElem?_eq_getElem hj) rfl
  | lst e ha hb hl h ih =>
    intro q
    cases q
    have q := I.list_inj ha hb
    subst q
    refine List.all_eq_true.mpr fun j hj => ?_
    have hj := List.mem_range.mp hj
    exact ih j _ _ (List.getElem?_eq_getElem hj) (List.getElem?_eq_getElem hj) rfl
  | lstN ha hb hl =>
    intro q
    cases q
    exact absurd (congrArg List.length (I.list_inj ha hb)) hl
theorem in1_units (A : Around) : A.in1.units = A.units + 1 := rfl
mutual
theorem EqR.at (I : Inv X pins σ H s) : ∀ {n : Nat} {x y : V} {b : Bool}, EqR X.K H n x y b → ∀ {u v : Value} {A : Around}, RelV x u → RelV y v → A.units + n < cLine → SeqAt.EqAt A s u v b
  | _, _, _, _, .flat fx fy, u, v, A, rx, ry, _ => eqAt_V rx ry fx fy
  | _, .ref a, .ref b, _, h, u, v, A, rx, ry, hu => by
    cases rx
    cases ry
    by_cases e : a = b
    · subst e
      rw [h.self I rfl]
      exact SeqAt.EqAt.same _
    · exact SeqAt.EqAt.of_refs e (EqR.rc I h hu)
theorem EqR.rc (I : Inv X pins σ H s) : ∀ {n : Nat} {a b : Addr} {c : Bool}, EqR X.K H n (.ref a) (.ref b) c → ∀ {A : Around}, A.units + n < cLine → SeqAt.RcAt A s (.ref a) (.ref b) c
  | _, _, _, _, .flat fx _, _, _ => absurd (show false = true from fx) Bool.false_ne_true
  | _, a, b, _, .tup (xs := xs) (ys := ys) e ha hb h, A, hu => by
    obtain ⟨its, r1, t1, z1⟩ := I.tuple ha
    obtain ⟨its2, r2, t2, z2⟩ := I.tuple hb
    have l1 : its.toArray.size = xs.length := by rw [List.size_toArray]; exact r1.length.symm
    have l2 : its2.toArray.size = ys.length := by rw [List.size_toArray]; exact r2.length.symm
    have q := SeqAt.RcAt.tuples (A := A) (e := e) t1 t2 (by omega) fun j h1 h2 => by
      rw [l1] at h1
      rw [l2] at h2
      obtain ⟨u1, e1, q1⟩ := r1.get (List.getElem?_eq_getElem h1)
      obtain ⟨u2, e2, q2⟩ := r2.get (List.getElem?_eq_getElem h2)
      have i1 : its.toArray[j] = u1 := by
        have := (List.getElem?_eq_some_iff.mp e1).2
        simpa using this
      have i2 : its2.toArray[j] = u2 := by
        have := (List.getElem?_eq_some_iff.mp e2).2
        simpa using this
      rw [i1, i2]
      exact EqR.at I (h j _ _ (List.getElem?_eq_getElem h1) (List.getElem?_eq_getElem h2)) q1 q2 (by rw [in1_units]; omega)
    rw [l1, l2] at q
    exact q
  | _, a, b, _, .lst (xs := xs) (ys := ys) e ha hb hl h, A, hu => by
    obtain ⟨its, r1, t1, z1⟩ := I.list ha
    obtain ⟨its2, r2, t2, z2⟩ := I.list hb
    have l1 : its.toArray.size = xs.length := by rw [List.size_toArray]; exact r1.length.symm
    have l2 : its2.toArray.size = ys.length := by rw [List.size_toArray]; exact r2.length.symm
    have q := SeqAt.RcAt.lists (A := A) (e := e) t1.isList t2.isList (by rw [l1, l2]; exact hl) (by omega) fun j h1 h2 => by
      rw [l1] at h1
      rw [l2] at h2
      obtain ⟨u1, e1, q1⟩ := r1.get (List.getElem?_eq_getElem h1)
      obtain ⟨u2, e2, q2⟩ := r2.get (List.getElem?_eq_getElem h2)
      have i1 : its.toArray[j] = u1 := by
        have := (List.getElem?_eq_some_iff.mp e1).2
        simpa using this
      have i2 : its2.toArray[j] = u2 := by
        have := (List.getElem?_eq_some_iff.mp e2).2
        simpa using this
      rw [i1, i2]
      exact EqR.at I (h j _ _ (List.getElem?_eq_getElem h1) (List.getElem?_eq_getElem h2)) q1 q2 (by rw [in1_units]; omega)
    rw [l1] at q
    exact q
  | _, a, b, _, .lstN (xs := xs) (ys := ys) ha hb hl, A, hu => by
    obtain ⟨its, r1, t1, z1⟩ := I.list ha
    obtain ⟨its2, r2, t2, z2⟩ := I.list hb
    have l1 : its.toArray.size = xs.length := by rw [List.size_toArray]; exact r1.length.symm
    have l2 : its2.toArray.size = ys.length := by rw [List.size_toArray]; exact r2.length.symm
    exact SeqAt.RcAt.lists_lengths t1.isList t2.isList (by rw [l1, l2]; simpa using hl) (by omega)
end
theorem EqR.rcNe (I : Inv X pins σ H s) : ∀ {n : Nat} {a b : Addr} {c : Bool}, EqR X.K H n (.ref a) (.ref b) c → ∀ {A : Around}, A.units + n < cLine → SeqAt.RcNeAt A s (.ref a) (.ref b) (!c)
  | _, _, _, _, .flat fx _, _, _ => absurd (show false = true from fx) Bool.false_ne_true
  | _, a, b, _, .tup (xs := xs) (ys := ys) e ha hb h, A, hu => by
    obtain ⟨its, r1, t1, z1⟩ := I.tuple ha
    obtain ⟨its2, r2, t2, z2⟩ := I.tuple hb
    have l1 : its.toArray.size = xs.length := by rw [List.size_toArray]; exact r1.length.symm
    have l2 : its2.toArray.size = ys.length := by rw [List.size_toArray]; exact r2.length.symm
    have q := SeqAt.RcNeAt.tuples (A := A) (e := e) t1 t2 (by omega) fun j h1 h2 => by
      rw [l1] at h1
      rw [l2] at h2
      obtain ⟨u1, e1, q1⟩ := r1.get (List.getElem?_eq_getElem h1)
      obtain ⟨u2, e2, q2⟩ := r2.get (List.getElem?_eq_getElem h2)
      have i1 : its.toArray[j] = u1 := by
        have := (List.getElem?_eq_some_iff.mp e1).2
        simpa using this
      have i2 : its2.toArray[j] = u2 := by
        have := (List.getElem?_eq_some_iff.mp e2).2
        simpa using this
      rw [i1, i2]
      exact EqR.at I (h j _ _ (List.getElem?_eq_getElem h1) (List.getElem?_eq_getElem h2)) q1 q2 (by rw [in1_units]; omega)
    rw [l1, l2] at q
    exact q
  | _, a, b, _, .lst (xs := xs) (ys := ys) e ha hb hl h, A, hu => by
    obtain ⟨its, r1, t1, z1⟩ := I.list ha
    obtain ⟨its2, r2, t2, z2⟩ := I.list hb
    have l1 : its.toArray.size = xs.length := by rw [List.size_toArray]; exact r1.length.symm
    have l2 : its2.toArray.size = ys.length := by rw [List.size_toArray]; exact r2.length.symm
    have q := SeqAt.RcNeAt.lists (A := A) (e := e) t1.isList t2.isList (by rw [l1, l2]; exact hl) (by omega) fun j h1 h2 => by
      rw [l1] at h1
      rw [l2] at h2
      obtain ⟨u1, e1, q1⟩ := r1.get (List.getElem?_eq_getElem h1)
      obtain ⟨u2, e2, q2⟩ := r2.get (List.getElem?_eq_getElem h2)
      have i1 : its.toArray[j] = u1 := by
        have := (List.getElem?_eq_some_iff.mp e1).2
        simpa using this
      have i2 : its2.toArray[j] = u2 := by
        have := (List.getElem?_eq_some_iff.mp e2).2
        simpa using this
      rw [i1, i2]
      exact EqR.at I (h j _ _ (List.getElem?_eq_getElem h1) (List.getElem?_eq_getElem h2)) q1 q2 (by rw [in1_units]; omega)
    rw [l1] at q
    exact q
  | _, a, b, _, .lstN (xs := xs) (ys := ys) ha hb hl, A, hu => by
    obtain ⟨its, r1, t1, z1⟩ := I.list ha
    obtain ⟨its2, r2, t2, z2⟩ := I.list hb
    have l1 : its.toArray.size = xs.length := by rw [List.size_toArray]; exact r1.length.symm
    have l2 : its2.toArray.size = ys.length := by rw [List.size_toArray]; exact r2.length.symm
    exact SeqAt.RcNeAt.lists_lengths t1.isList t2.isList (by rw [l1, l2]; simpa using hl) (by omega)
end
@[irreducible] def rEqO (K : PySem.W.Frag) (a b : Addr) (H : Hp) (Q : VK) : Prop := ∃ n c, n ≤ 40 ∧ EqR K H n (.ref a) (.ref b) c ∧ Q (.bl c) H
def rEqM (K : PySem.W.Frag) : R2 := fun x y H Q => match x, y with
  | .int i, .int j => Q (.bl (decide (i = j))) H
  | .bl i, .bl j => Q (.bl (decide (i = j))) H
  | .str i, .str j => Q (.bl (decide (i = j))) H
  | .ref a, .ref b => rEqO K a b H Q
  | x, y => scal x y = true ∧ Q (.bl (decide (x = y))) H
def rNeM (K : PySem.W.Frag) : R2 := fun x y H Q => rEqM K x y H fun v H' => match v with
  | .bl b => Q (.bl (!b)) H'
  | _ => False
theorem dec_inj {α β : Type} [DecidableEq α] [DecidableEq β] {f : α → β} (hf : ∀ a b, f a = f b → a = b) (a b : α) : decide (f a = f b) = decide (a = b) := by
  by_cases h : a = b
  · subst h; simp
  · rw [decide_eq_false h, decide_eq_false fun e => h (hf _ _ e)]
theorem oEq (hu : X.A.units + 40 < cLine) : OpR X (compareOp .Eq) (rEqM X.K) := by
  intro pins s σ H x y v u Q I rx ry h
  unfold rEqM at h
  split at h
  · rename_i i j
    exact op_eq pins s σ H _ _ v u Q I rx ry ⟨rfl, by rw [dec_inj (f := V.int) fun a b e => V.int.inj e]; exact h⟩
  · exact op_eq pins s σ H _ _ v u Q I rx ry ⟨rfl, by rw [dec_inj (f := V.bl) fun a b e => V.bl.inj e]; exact h⟩
  · exact op_eq pins s σ H _ _ v u Q I rx ry ⟨rfl, by rw [dec_inj (f := V.str) fun a b e => V.str.inj e]; exact h⟩
  · unfold rEqO at h
    obtain ⟨n, c, hn, h1, h2⟩ := h
    cases rx
    cases ry
    exact EqR.rc I h1 (A := X.A) (by omega) _ _ _ _ ⟨.bl c, H, I, rfl, h2⟩
  · exact op_eq pins s σ H _ _ v u Q I rx ry h
theorem oNe (hu : X.A.units + 40 < cLine) : OpR X (compareOp .NotEq) (rNeM X.K) := by
  intro pins s σ H x y v u Q I rx ry h
  unfold rNeM rEqM at h
  split at h
  · rename_i i j
    exact op_ne pins s σ H _ _ v u Q I rx ry ⟨rfl, by rw [dec_inj (f := V.int) fun a b e => V.int.inj e]; exact h⟩
  · exact op_ne pins s σ H _ _ v u Q I rx ry ⟨rfl, by rw [dec_inj (f := V.bl) fun a b e => V.bl.inj e]; exact h⟩
  · exact op_ne pins s σ H _ _ v u Q I rx ry ⟨rfl, by rw [dec_inj (f := V.str) fun a b e => V.str.inj e]; exact h⟩
  · unfold rEqO at h
    obtain ⟨n, c, hn, h1, h2⟩ := h
    cases rx
    cases ry
    exact EqR.rcNe I h1 (A := X.A) (by omega) _ _ _ _ ⟨.bl (!c), H, I, rfl, h2⟩
  · exact op_ne pins s σ H _ _ v u Q I rx ry ⟨h.1, h.2⟩
section
variable {K : PySem.W.Frag} {H : Hp} {Q : VK} {a b : Addr} {c : Bool} {n : Nat}
theorem eqO_rd (h : EqR K H n (.ref a) (.ref b) c) (q : Q (.bl c) H) (hn : n ≤ 40 := by decide) : rEqO K a b H Q := by unfold rEqO; exact ⟨n, c, hn, h, q⟩
end

/-! ### tests, and, or, not, if -/
/-- a value's truth -/
def qB (t : TE) : TT := fun σ H Q => t σ H fun x H1 => match x with
  | .bl c => Q c H1
  | .int i => Q (!decide (i = 0)) H1
  | _ => False
theorem ptV {e : Expr} {t : TE} (h : PE X e t) (he : ∀ whole, isTrue e X.env whole = (do let v ← whole; standAt e.pos; holding [v] (truthy v)) := by intro _; rfl) : PT X e (qB t) := fun pins s σ H Q I hw => by
  refine isTrue_plain (thn (h pins s σ H _ I hw) fun v s1 ⟨x, H1, I1, r1, q1⟩ => ?_) (he _)
  dsimp only at q1
  split at q1
  · exact tru_ok pins s1 σ H1 _ v Q I1 r1 ⟨_, rfl, q1⟩
  · rename_i i
    refine tru_ok pins s1 σ H1 _ v Q I1 r1 ⟨_, rfl, ?_⟩
    have e : (i != 0) = !decide (i = 0) := by by_cases h : i = 0 <;> simp [h]
    rw [e]; exact q1
  · exact q1.elim
theorem ptC {a b : Expr} {ta tb : TE} {pos : Pos} {op : CmpOp} {r : R2} (ho : OpR X (compareOp op) r) (ha : PE X a ta) (hb : PE X b tb) (hm : behindInMarks op b = false := by first | exact nomark _ | with_unfolding_all rfl) : PT X (.Compare a [op] [b] pos) (qB (tOp r ta tb)) := by
  intro pins s σ H Q I h
  refine wpAny_isTrue_Compare1 (thn (ha pins s σ H _ I h) fun v s1 ⟨x, H1, I1, r1, q1⟩ => thn (hb pins s1 σ H1 _ I1 q1) fun u s2 ⟨y, H2, I2, r2, q2⟩ =>
    thn (ho pins s2 σ H2 x y v u _ I2 r1 r2 q2) fun c s3 ⟨z, H3, I3, r3, q3⟩ => ?_) hm
  dsimp only at q3
  split at q3
  · cases r3
    exact wpAny_truthy_bool ⟨H3, I3, q3⟩
  · rename_i i
    refine tru_ok pins s3 σ H3 _ c Q I3 r3 ⟨_, rfl, ?_⟩
    have e : (i != 0) = !decide (i = 0) := by by_cases h : i = 0 <;> simp [h]
    rw [e]; exact q3
  · exact q3.elim
theorem peC {a b : Expr} {ta tb : TE} {pos : Pos} {op : CmpOp} {r : R2} (ho : OpR X (compareOp op) r) (ha : PE X a ta) (hb : PE X b tb) (hm : behindInMarks op b = false := by first | exact nomark _ | with_unfolding_all rfl) : PE X (.Compare a [op] [b] pos) (tOp r ta tb) :=
  pe_cmpR ho ha hb hm

variable {a b : Expr} {rest : List Expr} {tA tB' : TT} {ta tb : TE} {pos : Pos}
def qAnd (t u : TT) : TT := fun σ H Q => t σ H fun c H1 => br c (u σ H1 Q) (Q false H1)
def qOr (t u : TT) : TT := fun σ H Q => t σ H fun c H1 => br c (Q true H1) (u σ H1 Q)
theorem pwAnd (ha : PT X a tA) (hb : PW X (.BoolOp .And (b :: rest) pos) tB') : PW X (.BoolOp .And (a :: b :: rest) pos) (qAnd tA tB') := fun wh pins s σ H Q I h =>
  pw_and ha hb wh pins s σ H Q I (by unfold qAnd at h; simp only [br_iff] at h; exact h)
theorem pwOr (ha : PT X a tA) (hb : PW X (.BoolOp .Or (b :: rest) pos) tB') : PW X (.BoolOp .Or (a :: b :: rest) pos) (qOr tA tB') := fun wh pins s σ H Q I h =>
  pw_or ha hb wh pins s σ H Q I (by unfold qOr at h; simp only [br_iff] at h; exact h)
def qAndV (ta tb : TE) : TE := fun σ H Q => ta σ H fun x H1 => match x with
  | .bl c => br c (tb σ H1 Q) (Q (.bl false) H1)
  | _ => False
def qNotV (ta : TE) : TE := fun σ H Q => ta σ H fun x H1 => match x with
  | .bl c => Q (.bl (!c)) H1
  | _ => False
theorem peAnd (ha : PE X a ta) (hb : PE X (.BoolOp .And (b :: rest) pos) tb) : PE X (.BoolOp .And (a :: b :: rest) pos) (qAndV ta tb) := by
  intro pins s σ H Q I h
  refine BoolOp_and (thn (ha pins s σ H _ I h) fun v s1 ⟨x, H1, I1, r1, q1⟩ => ?_)
  dsimp only at q1
  split at q1
  · rename_i c
    cases r1
    refine wpAny_truthy_bool ?_
    rw [br_iff] at q1
    cases c with
    | true => exact hb pins s1 σ H1 Q I1 (by simpa using q1)
    | false => exact ⟨.bl false, H1, I1, rfl, by simpa using q1⟩
  · exact q1.elim
theorem peNot (ha : PE X a ta) : PE X (.UnaryOp .Not a pos) (qNotV ta) := by
  intro pins s σ H Q I h
  refine UnaryOp_ (thn (ha pins s σ H _ I h) fun v s1 ⟨x, H1, I1, r1, q1⟩ => ?_)
  dsimp only at q1
  split at q1
  · rename_i c
    cases r1
    exact not_of (wpAny_truthy_bool ⟨.bl (!c), H1, I1, rfl, q1⟩)
  · exact q1.elim
/-! ### statements -/
variable {st : Stmt} {t u : TS} {e : Expr} {te : TE}
def qIfS (c : TT) (t u : TS) : TS := fun D σ H => c σ H fun b H1 => br b (t D σ H1) (u D σ H1)
theorem psIf {c : Expr} {a b : List Stmt} {tc : TT} (hc : PT X c tc) (ha : PSs X a t) (hb : PSs X b u) : PS X (.If c a b pos) (qIfS tc t u) := fun pins s σ H D I h =>
  ps_if hc ha hb pins s σ H D I (by unfold qIfS at h; simp only [br_iff] at h; exact h)
@[irreducible] def loopW (J : It) (g : TG) (tb : TS) (D : Ends) (σ : St) (H1 : Hp) : Prop := ∃ W : Nat → Nat → St → Hp → Prop, (∃ m, W 0 m σ H1) ∧ ∀ i m σ H, W i m σ H →
  (J.stop i H ∧ D.nx σ H) ∨ (J.go i H ∧ ∃ N : St → Hp → Prop, (∀ σ' H', N σ' H' → ∃ m', m' < m ∧ W (i + 1) m' σ' H') ∧ ∀ x H', J.yld i H x H' → g x σ H' fun σ2 H2 => tb { D with nx := N, ct := N, bk := D.nx } σ2 H2)
def qFor (wi : TI) (g : TG) (tb : TS) : TS := fun D σ H => wi σ H fun J H1 => loopW J g tb D σ H1
theorem psFor {iter tg : Expr} {body : List Stmt} {wi : TI} {g : TG} {tb : TS} {pos : Pos} (hp : PassesOwn (model X.prog X.w) X.A X.env X.xe) (hc : X.calm = true) (hi : PI X tg iter wi) (hg : PG X tg g) (hb : PSs X body tb)
    (hs : ∀ x, foldedSetIterable iter X.env x = pure x := by intro _; rfl) : PS X (.For tg iter body [] pos) (qFor wi g tb) := fun pins s σ H D I h =>
  ps_for hp hc hi hg hb hs pins s σ H D I (by unfold qFor at h; unfold loopW at h; exact h)
@[irreducible] def rIter (K : PySem.W.Frag) (a : Addr) (H : Hp) (R : It → Hp → Prop) : Prop := ((∃ xs, SqL K H a xs) ∧ R (Itl K a) H) ∨ ((∃ xs, SqT K H a xs) ∧ R (Itt K a) H)
def qiSeq (K : PySem.W.Frag) (tl : TE) : TI := fun σ H R => tl σ H fun x H1 => match x with
  | .ref a => rIter K a H1 R
  | _ => False
theorem piSeq {tg l : Expr} {tl : TE} (hl : PE X l tl) : PI X tg l (qiSeq X.K tl) := by
  intro pins s σ H R I h
  refine thn (hl pins s σ H _ I h) fun v s1 ⟨x, H1, I1, r1, q1⟩ => ?_
  dsimp only at q1
  split at q1
  · rename_i a
    unfold rIter at q1
    cases r1
    have fp : ∀ b ∈ [s1.heap.objs.size], FpOk X pins H1 b := fun b hb => by
      have e : b = s1.heap.objs.size := by simpa using hb
      subst e
      exact I1.fpOk (Nat.le_refl _) (I1.hok.fresh (Nat.le_refl _))
    rcases q1 with ⟨⟨xs, hq⟩, q⟩ | ⟨⟨xs, hq⟩, q⟩
    · obtain ⟨its, rv, p, hz⟩ := I1.list hq
      refine wpAny_pyIter_list p.isList ?_
      exact ⟨s1.heap.objs.size, [s1.heap.objs.size], _, _, H1, rfl, I1.kept (t' := s1.toks) fun b o e => Heap.get?_push_of_some _ e, turn_list a _, ⟨_, Heap.get?_push_size _ rfl, rfl, rfl⟩, fp, q⟩
    · obtain ⟨its, rv, p, hz⟩ := I1.tuple hq
      refine wpAny_pyIter_tuple (show s1.heap.IsTuple a its.toArray from p) ?_
      exact ⟨s1.heap.objs.size, [s1.heap.objs.size], _, _, H1, rfl, I1.kept (t' := s1.toks) fun b o e => Heap.get?_push_of_some _ e, turn_tuple a _, ⟨_, Heap.get?_push_size _ rfl, rfl, rfl⟩, fp, q⟩
  · exact q1.elim
@[irreducible] def rRange (i j : Int) (H : Hp) (R : It → Hp → Prop) : Prop := (-(2 ^ 62) ≤ i ∧ i < 2 ^ 62 ∧ -(2 ^ 62) ≤ j ∧ j < 2 ^ 62) ∧ R (Itr i (j - i).toNat) H
def qiRng (ta : TA) : TI := fun σ H R => ta σ H fun vs H1 => match vs with
  | [.int j] => rRange 0 j H1 R
  | [.int i, .int j] => rRange i j H1 R
  | _ => False
theorem piRng1 {tg a : Expr} {ta : TA} {p pos : Pos} (hm : X.mg "range" = none) (ha : PA X [a] ta) (hg : Gl X "range" := by rfl) (hs : starEach [a] X.env = [(false, eval a X.env)] := by rfl) : PI X tg (.Call (.Name "range" p) [a] [] pos) (qiRng ta) := by
  intro pins s σ H R I h
  refine Call_ (ld_blt I hg hm boot_range (PyProof.Rows.callWith_type1 (thn (ha pos pins s σ H _ I h) fun us s1 ⟨vs, H1, I1, r1, q1⟩ => ?_) hs rfl))
  dsimp only at q1
  split at q1
  · unfold rRange at q1
    obtain ⟨⟨a1, a2, a3, a4⟩, q⟩ := q1
    cases r1 with
    | cons r rr =>
      cases rr
      obtain ⟨t, rfl⟩ := r
      exact call_range_1 (range_it I1 a1 a2 a3 a4 q)
  · unfold rRange at q1
    cases r1 with
    | cons r rr =>
      cases rr with
      | cons r' rr =>
        cases rr
        obtain ⟨t, rfl⟩ := r
        obtain ⟨t', rfl⟩ := r'
        obtain ⟨⟨a1, a2, a3, a4⟩, q⟩ := q1
        exact call_range_2 (range_it I1 a1 a2 a3 a4 q)
  · exact q1.elim
/-! the loops' readings -/
section
variable {K : PySem.W.Frag} {g : TG} {tb : TS} {D : Ends} {σ : St} {H : Hp} {R : It → Hp → Prop}
theorem iterL_rd {a : Addr} {xs : List V} (h : H a = some (.lst xs)) (q : R (Itl K a) H) : rIter K a H R := by unfold rIter; exact .inl ⟨⟨xs, SqL.of h⟩, q⟩
theorem iterT_rd {a : Addr} {xs : List V} (h : H a = some (.tup xs)) (q : R (Itt K a) H) : rIter K a H R := by unfold rIter; exact .inr ⟨⟨xs, SqT.of h⟩, q⟩
theorem range_rd {i j : Int} (h1 : -(2 ^ 62) ≤ i) (h2 : i < 2 ^ 62) (h3 : -(2 ^ 62) ≤ j) (h4 : j < 2 ^ 62) (q : R (Itr i (j - i).toNat) H) : rRange i j H R := by unfold rRange; exact ⟨⟨h1, h2, h3, h4⟩, q⟩
theorem loop_list {a : Addr} {xs : List V} (Pv : Nat → St → Hp → Prop) (h0 : Pv 0 σ H) (hl : ∀ i σ H, i ≤ xs.length → Pv i σ H → SqL K H a xs)
    (hs : ∀ i x σ H, xs[i]? = some x → Pv i σ H → g x σ H fun σ2 H2 => tb { D with nx := Pv (i + 1), ct := Pv (i + 1), bk := D.nx } σ2 H2) (hd : ∀ σ H, Pv xs.length σ H → D.nx σ H) : loopW (Itl K a) g tb D σ H := by
  unfold loopW; exact for_list Pv h0 hl hs hd
theorem loop_tup {a : Addr} {xs : List V} (Pv : Nat → St → Hp → Prop) (h0 : Pv 0 σ H) (hl : ∀ i σ H, i ≤ xs.length → Pv i σ H → SqT K H a xs)
    (hs : ∀ i x σ H, xs[i]? = some x → Pv i σ H → g x σ H fun σ2 H2 => tb { D with nx := Pv (i + 1), ct := Pv (i + 1), bk := D.nx } σ2 H2) (hd : ∀ σ H, Pv xs.length σ H → D.nx σ H) : loopW (Itt K a) g tb D σ H := by
  unfold loopW; exact for_tup Pv h0 hl hs hd
theorem loop_range {lo : Int} {n : Nat} (Pv : Nat → St → Hp → Prop) (h0 : Pv 0 σ H)
    (hs : ∀ i σ H, i < n → Pv i σ H → g (.int (lo + i)) σ H fun σ2 H2 => tb { D with nx := Pv (i + 1), ct := Pv (i + 1), bk := D.nx } σ2 H2) (hd : ∀ σ H, Pv n σ H → D.nx σ H) : loopW (Itr lo n) g tb D σ H := by
  unfold loopW; exact for_range Pv h0 hs hd
end
/-! while -/
section
variable {c : TT} {tb : TS} {D : Ends} {σ : St} {H H1 : Hp} {W : Nat → St → Hp → Prop} {m : Nat} {p : Prop}
end

/-! ### displays, index, store, slices -/
@[irreducible] def rNewT (xs : List V) (H : Hp) (Q : VK) : Prop := xs.length ≤ sizeLine ∧ ∀ p H', H p = none → Same H H' → H' p = some (.tup xs) → Q (.ref p) H'
@[irreducible] def rNewL (xs : List V) (H : Hp) (Q : VK) : Prop := xs.length ≤ sizeLine ∧ ∀ p H', H p = none → Same H H' → H' p = some (.lst xs) → Q (.ref p) H'
def qTup (t : TA) : TE := fun σ H Q => t σ H fun xs H1 => rNewT xs H1 Q
def qLst (t : TA) : TE := fun σ H Q => t σ H fun xs H1 => rNewL xs H1 Q
theorem peTup {es : List Expr} {x1} {t : TA} (h : PA X es t) : PE X (.Tuple es x1 pos) (qTup t) := by
  intro pins s σ H Q I hq
  refine wpAny_Tuple_spliced (thn (h pos pins s σ H _ I hq) fun us s1 ⟨xs, H1, I1, r, z⟩ => ?_)
  unfold rNewT at z
  obtain ⟨z, q⟩ := z
  refine ⟨by rw [← r.length]; exact z, ?_⟩
  have hf : H1 s1.heap.objs.size = none := I1.hok.fresh (Nat.le_refl _)
  refine ⟨.ref s1.heap.objs.size, upd H1 s1.heap.objs.size (.tup xs), I1.laid (t' := s1.toks) (fun b u e => Heap.get?_push_of_some _ e) (Nat.le_refl _) ?_, rfl, q _ _ hf (Same.upd hf) upd_same⟩
  exact ⟨z, us, r, ⟨_, Heap.get?_push_size _ rfl, rfl, _, rfl⟩⟩
theorem peLst {es : List Expr} {t : TA} (h : PA X es t) : PE X (.List es pos) (qLst t) := by
  intro pins s σ H Q I hq
  refine wpAny_List_spliced (thn (h pos pins s σ H _ I hq) fun us s1 ⟨xs, H1, I1, r, z⟩ => ?_)
  unfold rNewL at z
  obtain ⟨z, q⟩ := z
  refine ⟨by rw [← r.length]; exact z, ?_⟩
  have hf : H1 s1.heap.objs.size = none := I1.hok.fresh (Nat.le_refl _)
  refine ⟨.ref s1.heap.objs.size, upd H1 s1.heap.objs.size (.lst xs), I1.laid (t' := s1.toks) (fun b u e => Heap.get?_push_of_some _ e) (Nat.le_refl _) ?_, rfl, q _ _ hf (Same.upd hf) upd_same⟩
  exact ⟨z, us, 0, r, Heap.get?_push_size _ rfl⟩
@[irreducible] def rIxA (K : PySem.W.Frag) (p : Addr) (i : Int) (H : Hp) (Q : VK) : Prop := ∃ xs v, (SqL K H p xs ∨ SqT K H p xs) ∧ atI xs i = some v ∧ Q v H
def rIxM (K : PySem.W.Frag) : R2 := fun x y H Q => match x, y with
  | .ref p, .int i => rIxA K p i H Q
  | .str z, .int i => ∃ c, z.length ≤ sizeLine ∧ atI z.cps.toList i = some c ∧ Q (.str ⟨#[c]⟩) H
  | _, _ => False
theorem ixM : IxR X (rIxM X.K) := by
  intro value slice pins s σ H x y v u Q I rx ry h hs
  unfold rIxM at h
  split at h
  · unfold rIxA at h
    obtain ⟨xs, z, h1, h2, q⟩ := h
    rcases h1 with h1 | h1
    · exact ix_list value slice pins s σ H _ _ v u Q I rx ry ⟨_, xs, _, z, rfl, rfl, h1, h2, q⟩ hs
    · exact ix_tup value slice pins s σ H _ _ v u Q I rx ry ⟨_, xs, _, z, rfl, rfl, h1, h2, q⟩ hs
  · obtain ⟨c, h1, h2, q⟩ := h
    exact ix_str value slice pins s σ H _ _ v u Q I rx ry ⟨_, _, c, rfl, rfl, h1, h2, q⟩ hs
  · exact h.elim
theorem peIx (ha : PE X a ta) (hb : PE X b tb) (hs : PlainIx b := by exact fun _ _ => rfl) : PE X (.Subscript a b pos) (tOp (rIxM X.K) ta tb) := pe_ix ixM ha hb hs
@[irreducible] def rSetA (p : Addr) (k : Int) (v : V) (H : Hp) (Q : Hp → Prop) : Prop := ∃ xs j, H p = some (.lst xs) ∧ ixN xs.length k = some j ∧ ∀ H', Chg p H H' → H' p = some (.lst (xs.set j v)) → Q H'
def rSetM : TSet := fun o i v H Q => match o, i with
  | .ref p, .int k => rSetA p k v H Q
  | _, _ => False
theorem setM : PSet X rSetM := by
  intro pins s σ H o i v ov iv u Q I ro ri rv h
  unfold rSetM at h
  split at h
  · unfold rSetA at h
    obtain ⟨xs, j, h1, h2, q⟩ := h
    exact set_list pins s σ H _ _ v ov iv u Q I ro ri rv ⟨_, xs, _, j, rfl, rfl, h1, h2, q _ Chg.upd upd_same⟩
  · exact h.elim
@[irreducible] def rSlA (K : PySem.W.Frag) (a : Addr) (lo hi : Option Int) (H : Hp) (Q : VK) : Prop := ∃ xs, SqL K H a xs ∧ ∀ p H', H p = none → Same H H' → H' p = some (.lst (cutV xs lo hi)) → Q (.ref p) H'
def rSlM (K : PySem.W.Frag) : V → Option Int → Option Int → Hp → VK → Prop := fun x lo hi H Q => match x with
  | .ref a => rSlA K a lo hi H Q
  | _ => False
theorem slM : SlR X (rSlM X.K) := by
  intro pins s σ H x v vl vu lo hi sl Q I rx hs pl pu h
  unfold rSlM at h
  split at h
  · unfold rSlA at h
    obtain ⟨xs, h1, q⟩ := h
    exact sl_list pins s σ H _ v vl vu lo hi sl Q I rx hs pl pu ⟨_, xs, rfl, h1, fun p hp => q p _ hp (Same.upd hp) upd_same⟩
  · exact h.elim
def qPart (t : TE) : TO := fun σ H Q => t σ H fun x H1 => match x with
  | .int i => Q (some i) H1
  | _ => False
theorem poSome (h : PE X e te) : PO X (some e) (qPart te) := by
  intro pins s σ H Q I hw
  rw [evalPart_some]
  refine thn (h pins s σ H _ I hw) fun u s1 ⟨x, H1, I1, r1, q1⟩ => ?_
  dsimp only at q1
  split at q1
  · rename_i i
    obtain ⟨t, rfl⟩ := r1
    exact ⟨some i, H1, I1, .int i t, q1⟩
  · exact q1.elim
section
variable {K : PySem.W.Frag} {H : Hp} {Q : VK} {p : Addr} {xs : List V} {v : V} {i : Int}
theorem newT_rd (q : ∀ p H', H p = none → Same H H' → H' p = some (.tup xs) → Q (.ref p) H') (h : xs.length ≤ sizeLine := by first | assumption | (simp only [List.length_cons, List.length_nil, Nat.zero_add, Nat.reduceAdd]; decide)) : rNewT xs H Q := by unfold rNewT; exact ⟨h, q⟩
theorem newL_rd (q : ∀ p H', H p = none → Same H H' → H' p = some (.lst xs) → Q (.ref p) H') (h : xs.length ≤ sizeLine := by first | assumption | (simp only [List.length_cons, List.length_nil, Nat.zero_add, Nat.reduceAdd]; decide)) : rNewL xs H Q := by unfold rNewL; exact ⟨h, q⟩
theorem ixT_rd (h : H p = some (.tup xs)) (e : atI xs i = some v) (q : Q v H) : rIxA K p i H Q := by unfold rIxA; exact ⟨xs, v, .inr (SqT.of h), e, q⟩
theorem ixL_rd (h : H p = some (.lst xs)) (e : atI xs i = some v) (q : Q v H) : rIxA K p i H Q := by unfold rIxA; exact ⟨xs, v, .inl (SqL.of h), e, q⟩
theorem set_rd {R : Hp → Prop} {j : Nat} (h : H p = some (.lst xs)) (e : ixN xs.length i = some j) (q : ∀ H', Chg p H H' → H' p = some (.lst (xs.set j v)) → R H') : rSetA p i v H R := by unfold rSetA; exact ⟨xs, j, h, e, q⟩
theorem sl_rd {lo hi : Option Int} (h : SqL K H p xs) (q : ∀ p H', H p = none → Same H H' → H' p = some (.lst (cutV xs lo hi)) → Q (.ref p) H') : rSlA K p lo hi H Q := by unfold rSlA; exact ⟨xs, h, q⟩
end

/-! ### tuple targets -/
def qgNil : TGs := fun vs σ H Q => match vs with
  | [] => Q σ H
  | _ => False
def qgCons (t : TG) (u : TGs) : TGs := fun vs σ H Q => match vs with
  | v :: r => t v σ H fun σ' H' => u r σ' H' Q
  | _ => False
theorem pgsNil : PGs X [] qgNil := fun pins s σ H vs us Q I r h => by
  unfold qgNil at h
  split at h
  · exact pgs_nil pins s σ H _ us Q I r ⟨rfl, h⟩
  · exact h.elim
theorem pgsCons {e : Expr} {es : List Expr} {t : TG} {u : TGs} (h1 : PG X e t) (h2 : PGs X es u)
    (hs : (assignEach (e :: es) X.env).map (·.2) = assign e X.env :: (assignEach es X.env).map (·.2) := by rfl) : PGs X (e :: es) (qgCons t u) := fun pins s σ H vs us Q I r h => by
  unfold qgCons at h
  split at h
  · exact pgs_cons h1 h2 hs pins s σ H _ us Q I r ⟨_, _, rfl, h⟩
  · exact h.elim
end
end L2

set_option Elab.async false
set_option linter.all false
set_option maxRecDepth 100000
set_option maxHeartbeats 1000000
namespace L2
open PySem PySem.Spec PyProof.Rows
section
variable {X : Cx}
/-! ### built-in calls, by values -/
def rAbsM : List V → Hp → VK → Prop := fun xs H Q => match xs with
  | [.int i] => Q (.int (i.natAbs : Int)) H
  | _ => False
def rIntM : List V → Hp → VK → Prop := fun xs H Q => match xs with
  | [.int i] => Q (.int i) H
  | [.bl k] => Q (.int (if k = true then 1 else 0)) H
  | _ => False
theorem cInt : CallR X (.type "int") rIntM := fun pins s σ H xs us Q I r h => by
  unfold rIntM at h
  split at h
  · exact call_int1 pins s σ H _ us Q I r (.inl ⟨_, rfl, h⟩)
  · exact call_int1 pins s σ H _ us Q I r (.inr ⟨_, rfl, h⟩)
  · exact h.elim
@[irreducible] def rLenA (K : PySem.W.Frag) (p : Addr) (H : Hp) (Q : VK) : Prop := ∃ ys, (SqL K H p ys ∨ SqT K H p ys) ∧ Q (.int ys.length) H
def rLenM (K : PySem.W.Frag) : List V → Hp → VK → Prop := fun xs H Q => match xs with
  | [.ref p] => rLenA K p H Q
  | [.str z] => z.length ≤ sizeLine ∧ Q (.int z.length) H
  | _ => False
theorem cLen : CallR X (.builtin "len") (rLenM X.K) := fun pins s σ H xs us Q I r h => by
  unfold rLenM at h
  split at h
  · unfold rLenA at h
    obtain ⟨ys, h1, h2⟩ := h
    exact call_len_seq pins s σ H _ us Q I r ⟨_, ys, rfl, h1, h2⟩
  · exact call_len_str pins s σ H _ us Q I r ⟨_, rfl, h.1, h.2⟩
  · exact h.elim
@[irreducible] def rIsiA (K : PySem.W.Frag) (x c : V) (H : Hp) (Q : VK) : Prop := ∃ t b, TyOf K H x t ∧ (∀ cv, RelV c cv → PySem.W.kitOne K t cv = some b) ∧ Q (.bl b) H
def rIsiM (K : PySem.W.Frag) : List V → Hp → VK → Prop := fun xs H Q => match xs with
  | [x, c] => rIsiA K x c H Q
  | _ => False
theorem cIsi : CallR X (.builtin "isinstance") (rIsiM X.K) := fun pins s σ H xs us Q I r h => by
  unfold rIsiM at h
  split at h
  · unfold rIsiA at h
    obtain ⟨t, b, h1, h2, h3⟩ := h
    obtain ⟨u, w, rfl, r1, r2⟩ := vals2 r
    exact isinst_ok I r1 h1 (h2 _ r2) fun tk => ⟨.bl b, H, I.tok _, rfl, h3⟩
  · exact h.elim
section
variable {K : PySem.W.Frag} {H : Hp} {Q : VK} {p : Addr} {xs : List V}
theorem lenL_rd (h : H p = some (.lst xs)) (q : Q (.int xs.length) H) : rLenA K p H Q := by unfold rLenA; exact ⟨xs, .inl (SqL.of h), q⟩
theorem lenT_rd (h : H p = some (.tup xs)) (q : Q (.int xs.length) H) : rLenA K p H Q := by unfold rLenA; exact ⟨xs, .inr (SqT.of h), q⟩
theorem isiI_rd {i : Int} {n : String} {b : Bool} (q : Q (.bl b) H) (e : PySem.W.kitOne K (.type "int") (.type n) = some b := by rfl) : rIsiA K (.int i) (.ty n) H Q := by
  unfold rIsiA; exact ⟨_, b, .int i, fun cv r => by cases r; exact e, q⟩
theorem isiB_rd {i : Bool} {n : String} {b : Bool} (q : Q (.bl b) H) (e : PySem.W.kitOne K (.type "bool") (.type n) = some b := by rfl) : rIsiA K (.bl i) (.ty n) H Q := by
  unfold rIsiA; exact ⟨_, b, .bl i, fun cv r => by cases r; exact e, q⟩
theorem isiT_rd {n : String} {b : Bool} (h : H p = some (.tup xs)) (q : Q (.bl b) H) (e : PySem.W.kitOne K (.type "tuple") (.type n) = some b := by rfl) : rIsiA K (.ref p) (.ty n) H Q := by
  unfold rIsiA; exact ⟨_, b, .tup h, fun cv r => by cases r; exact e, q⟩
theorem isiL_rd {n : String} {b : Bool} (h : H p = some (.lst xs)) (q : Q (.bl b) H) (e : PySem.W.kitOne K (.type "list") (.type n) = some b := by rfl) : rIsiA K (.ref p) (.ty n) H Q := by
  unfold rIsiA; exact ⟨_, b, .lst h, fun cv r => by cases r; exact e, q⟩
end
/-! the names of the built-ins -/
theorem bt_len : bootBuiltins "len" = some (.builtin "len") := by decide +kernel
theorem bt_sum : bootBuiltins "sum" = some (.builtin "sum") := by decide +kernel
theorem bt_isinstance : bootBuiltins "isinstance" = some (.builtin "isinstance") := by decide +kernel
theorem bt_sorted : bootBuiltins "sorted" = some (.builtin "sorted") := by decide +kernel
theorem bt_int : bootBuiltins "int" = some (.type "int") := by decide +kernel
theorem bt_bool : bootBuiltins "bool" = some (.type "bool") := by decide +kernel
theorem bt_list : bootBuiltins "list" = some (.type "list") := by decide +kernel
theorem bt_tuple : bootBuiltins "tuple" = some (.type "tuple") := by decide +kernel
theorem pTy {x : Str} {n : String} {pos : Pos} (hm : X.mg x = none) (hv : bootBuiltins x = some (.type n)) (hg : Gl X x := by rfl) (hn : x ≠ "__name__" := by decide) (hd : (x == ("__debug__" : Str)) = false := by decide) : PE X (.Name x pos) (tC (.ty n)) :=
  pe_bltn hg hm hv rfl hn hd
theorem pB {x : Str} {p pos : Pos} {e : Expr} {es : List Expr} {t : TA} {id : String} {r : List V → Hp → VK → Prop} (hc : CallR X (.builtin id) r) (hm : X.mg x = none) (hv : bootBuiltins x = some (.builtin id)) (ha : PA X (e :: es) t) (hg : Gl X x := by rfl) (hn : x ≠ "__name__" := by decide) (hdb : (x == ("__debug__" : Str)) = false := by decide)
    (he : starEach (e :: es) X.env = (false, eval e X.env) :: starEach es X.env := by rfl) (hpl : (backTo pos (starEach es X.env)).any (·.1) = false := by rfl) : PE X (.Call (.Name x p) (e :: es) [] pos) (tCB r t) := pe_callB hc hg hm hv ha hn hdb he hpl
theorem pT {x : Str} {p pos : Pos} {e : Expr} {es : List Expr} {t : TA} {id : String} {r : List V → Hp → VK → Prop} (hc : CallR X (.type id) r) (hm : X.mg x = none) (hv : bootBuiltins x = some (.type id)) (ha : PA X (e :: es) t) (hg : Gl X x := by rfl) (hn : x ≠ "__name__" := by decide) (hdb : (x == ("__debug__" : Str)) = false := by decide)
    (he : starEach (e :: es) X.env = (false, eval e X.env) :: starEach es X.env := by rfl) (hpl : (backTo pos (starEach es X.env)).any (·.1) = false := by rfl) : PE X (.Call (.Name x p) (e :: es) [] pos) (tCB r t) := pe_callTy hc hg hm hv ha hn hdb he hpl
/-! a def of the text, called: what is known of it -/
structure Def (P : Program) (w : World) (K : PySem.W.Frag) (mg : Str → Option Value) (base : Heap) (CX : CXT) (k : Nat) (x : Str) (ps : List Str) (sp : Sp) : Prop where
  ex : ∃ (f : Addr) (fd : FuncData), FnOk P w K mg base CX k f fd ps sp ∧ mg x = some (.ref f) ∧ PySem.W.keepIn K (.ref f) = true ∧ Binds K fd ps []
def qCall (sp : Sp) (E : XK) (t : TA) : TE := fun σ H Q => t σ H fun vs H1 => sp vs H1 Q E
theorem pD {CX : CXT} {k j : Nat} {x : Str} {ps : List Str} {sp : Sp} {E : XK} {p pos : Pos} {e : Expr} {es : List Expr} {t : TA} (F : Def X.prog X.w X.K X.mg X.base CX k x ps sp) (hr : Room j X.A) (hx : Passes CX X E) (ha : PA X (e :: es) t) (hk : k ≤ j := by decide) (hg : Gl X x := by rfl)
    (hdb : (x == ("__debug__" : Str)) = false := by decide) (he : starEach (e :: es) X.env = (false, eval e X.env) :: starEach es X.env := by rfl) (hpl : (backTo pos (starEach es X.env)).any (·.1) = false := by rfl) :
    PE X (.Call (.Name x p) (e :: es) [] pos) (qCall sp E t) := by
  obtain ⟨f, fd, F1, F2, F3, F4⟩ := F.ex
  intro pins s σ H Q I h
  refine pe_call F1 (hr.mono hk) hg F2 F3 F4 .nil hx ha hdb he hpl pins s σ H Q I ?_
  unfold tCall
  simp only [List.append_nil]
  exact h
theorem psS {i : Nat} {x : Str} {e : Expr} {te : TE} {pos' pos : Pos} (hN : X.N.Nodup) (he : PE X e te) (hi : X.N[i]? = some x := by rfl) (hx : Loc X.env.scope x := by first | exact Or.inl rfl | exact Or.inr rfl) (hs : swapsWith e (some (.Name x pos')) pos.line X.env = pure false := by rfl) (hf : X.fn x = true ∨ X.env.scope.names.lookup x = some .local := by first | exact .inl rfl | exact .inr rfl | assumption) :
    PS X (.Assign [.Name x pos'] e pos) (tAsg te (gName i)) := ps_set hN hi hx he hs hf
section
variable {K : PySem.W.Frag} {H : Hp} {Q : VK} {p : Addr} {xs : List V} {i j : Int}
theorem mulL_rd (h1 : -18446744073709551616 < i) (h2 : i < 18446744073709551616) (q : Q (.int (i * j)) H) : rMulI i j H Q := mul_rd (.of_left (intBits_le_64 (by simpa using h1) (by simpa using h2))) q
theorem mulR_rd (h1 : -18446744073709551616 < j) (h2 : j < 18446744073709551616) (q : Q (.int (i * j)) H) : rMulI i j H Q := mul_rd (.of_right (intBits_le_64 (by simpa using h1) (by simpa using h2))) q
/-- a remainder, by its bounds alone -/
theorem modG_rd (h : 0 < j) (q : ∀ r : Int, 0 ≤ r → r < j → Q (.int r) H) : rModI i j H Q := mod_rd h (q _ (Int.emod_nonneg _ (by omega)) (Int.emod_lt_of_pos _ h))
/-- an item at a drawn place -/
theorem ixAny_rd (h : H p = some (.lst xs)) (h0 : 0 ≤ i) (h1 : i < xs.length) (q : ∀ v, v ∈ xs → Q v H) : rIxA K p i H Q := by
  have hl : i.toNat < xs.length := by omega
  refine ixL_rd h (v := xs[i.toNat]) ?_ (q _ (List.getElem_mem hl))
  have e : ((i.toNat : Nat) : Int) = i := by omega
  have z := atI_nat (List.getElem?_eq_getElem hl)
  rw [e] at z
  exact z
theorem hu40 {A : Around} {k : Nat} (hr : Room k A) : A.units + 40 < cLine := by have := hr.units; omega
end
/-! ### a word between two statements -/
@[irreducible] def qCut (t : TS) : TS := fun D σ H => ∃ R : St → Hp → Prop, t { D with nx := R } σ H ∧ ∀ σ' H', R σ' H' → D.nx σ' H'
theorem psCut {st : Stmt} {t : TS} (h : PS X st t) : PS X st (qCut t) := fun pins s σ H D I hq => by
  unfold qCut at hq
  obtain ⟨R, h1, h2⟩ := hq
  refine thn (h pins s σ H _ I h1) fun f s' q => ?_
  cases f with
  | next => obtain ⟨σ', H', I', z⟩ := q; exact ⟨σ', H', I', h2 _ _ z⟩
  | brk => exact q
  | cont => exact q
  | ret u => exact q
theorem cut_rd {t : TS} {D : Ends} {σ : St} {H : Hp} (R : St → Hp → Prop) (h1 : t { D with nx := R } σ H) (h2 : ∀ σ' H', R σ' H' → D.nx σ' H') : qCut t D σ H := by unfold qCut; exact ⟨R, h1, h2⟩
/-! the script's numbers -/
end
end L2

set_option Elab.async false
set_option linter.all false
set_option maxRecDepth 100000
set_option maxHeartbeats 2000000
namespace L2
open PySem PySem.Spec PyProof.Rows
/-! ### comprehensions -/
theorem closure_go {env : Env} : ∀ (names : List (Str × NameKind)) (acc : List (Str × Addr)), (∀ x ∈ names, x.2 = .free → ∃ c, env.cells.lookup x.1 = some c) →
    ∃ acc', (forIn (m := Sem) names acc (fun (x : Str × NameKind) (r : List (Str × Addr)) => if (x.2 == .free) = true then (do let c ← cellOf env x.1; pure (ForInStep.yield ((x.1, c) :: r))) else pure (ForInStep.yield r))) = pure acc' ∧
      (∀ x c, acc'.lookup x = some c → acc.lookup x = some c ∨ env.cells.lookup x = some c) ∧ (∀ x c, acc.lookup x = some c → ∃ c', acc'.lookup x = some c') ∧ ∀ x ∈ names, x.2 = .free → ∃ c, acc'.lookup x.1 = some c
  | [], acc, _ => ⟨acc, rfl, fun _ _ h => .inl h, fun _ c h => ⟨c, h⟩, fun _ h => by cases h⟩
  | (n, k) :: r, acc, h => by
    by_cases hk : k = .free
    · subst hk
      obtain ⟨c, hc⟩ := h (n, .free) List.mem_cons_self rfl
      obtain ⟨acc', e, h1, h2, h3⟩ := closure_go r ((n, c) :: acc) fun x hx => h x (List.mem_cons_of_mem _ hx)
      have hco : cellOf env n = pure c := by unfold cellOf; rw [hc]
      refine ⟨acc', ?_, fun x d hd => ?_, fun x d hd => ?_, fun x hx hf => ?_⟩
      · rw [List.forIn_cons]
        simp only [hco]
        exact e
      · rcases h1 x d hd with q | q
        · rw [List.lookup_cons] at q
          split at q
          · rename_i hx
            have hx : x = n := by simpa using hx
            subst hx
            cases q
            exact .inr hc
          · exact .inl q
        · exact .inr q
      · by_cases hx : x = n
        · subst hx
          exact h2 x c (by simp [List.lookup_cons])
        · refine h2 x d ?_
          rw [List.lookup_cons]
          have : (x == n) = false := by simpa using hx
          rw [this]; exact hd
      · rcases List.mem_cons.mp hx with rfl | hx
        · exact h2 n c (by simp [List.lookup_cons])
        · exact h3 x hx hf
    · obtain ⟨acc', e, h1, h2, h3⟩ := closure_go r acc fun x hx => h x (List.mem_cons_of_mem _ hx)
      refine ⟨acc', ?_, h1, h2, fun x hx hf => ?_⟩
      · rw [List.forIn_cons]
        have : (k == NameKind.free) = false := by simpa using hk
        simp only [this]
        exact e
      · rcases List.mem_cons.mp hx with rfl | hx
        · exact absurd hf hk
        · exact h3 x hx hf
theorem closure_ok {scope : Scope} {env : Env} (h : ∀ x ∈ scope.names, x.2 = .free → ∃ c, env.cells.lookup x.1 = some c) :
    ∃ cl, closureFor scope env = pure cl ∧ (∀ x c, cl.lookup x = some c → env.cells.lookup x = some c) ∧ ∀ x ∈ scope.names, x.2 = .free → ∃ c, cl.lookup x.1 = some c := by
  obtain ⟨cl, e, h1, _, h3⟩ := closure_go (env := env) scope.names [] h
  refine ⟨cl, ?_, fun x c hc => (h1 x c hc).elim (fun q => by cases q) id, h3⟩
  unfold closureFor
  show (forIn (m := Sem) scope.names ([] : List (Str × Addr)) _ >>= fun r => pure r) = _
  rw [e]
  rfl
theorem relabel_free {env : Env} : ∀ {names : List (Str × NameKind)} {x : Str}, names.lookup x = some .free →
    (names.map fun (n, k) => if (k == NameKind.free && env.scope.kind == .function && env.kindOf n == some .cell) then (n, NameKind.cell) else (n, k)).lookup x = some .cell ∨
    (names.map fun (n, k) => if (k == NameKind.free && env.scope.kind == .function && env.kindOf n == some .cell) then (n, NameKind.cell) else (n, k)).lookup x = some .free
  | [], _, h => by simp at h
  | (n, k) :: r, x, h => by
    have ih := @relabel_free env r x
    show List.lookup x ((if (k == NameKind.free && env.scope.kind == .function && env.kindOf n == some .cell) = true then (n, NameKind.cell) else (n, k)) :: _) = _ ∨ List.lookup x ((if (k == NameKind.free && env.scope.kind == .function && env.kindOf n == some .cell) = true then (n, NameKind.cell) else (n, k)) :: _) = _
    cases hx : x == n with
    | true =>
      simp only [List.lookup_cons, hx] at h
      cases h
      by_cases hc : (NameKind.free == NameKind.free && env.scope.kind == .function && env.kindOf n == some .cell) = true
      · left; rw [if_pos hc]; simp only [List.lookup_cons, hx]
      · right; rw [if_neg hc]; simp only [List.lookup_cons, hx]
    | false =>
      simp only [List.lookup_cons, hx] at h
      by_cases hc : (k == NameKind.free && env.scope.kind == .function && env.kindOf n == some .cell) = true
      · rw [if_pos hc]; simp only [List.lookup_cons, hx]; exact ih h
      · rw [if_neg hc]; simp only [List.lookup_cons, hx]; exact ih h
/-- what a name's kind in the block says of the written scope -/
theorem relabel_kind {env : Env} : ∀ {names : List (Str × NameKind)} {x : Str} {k' : NameKind}, (∀ y ∈ names, y.2 ≠ .cell) → (k' = .cell ∨ k' = .free) →
    (names.map fun (n, k) => if (k == NameKind.free && env.scope.kind == .function && env.kindOf n == some .cell) then (n, NameKind.cell) else (n, k)).lookup x = some k' → ∃ y ∈ names, y.1 = x ∧ y.2 = .free
  | [], _, _, _, _, h => by simp at h
  | (n, k) :: r, x, k', hn, hk, h => by
    have ih := @relabel_kind env r x k' (fun y hy => hn y (List.mem_cons_of_mem _ hy)) hk
    replace h : List.lookup x ((if (k == NameKind.free && env.scope.kind == .function && env.kindOf n == some .cell) = true then (n, NameKind.cell) else (n, k)) :: List.map (fun (n, k) => if (k == NameKind.free && env.scope.kind == .function && env.kindOf n == some .cell) then (n, NameKind.cell) else (n, k)) r) = some k' := h
    cases hx : x == n with
    | true =>
      have hx' : x = n := by simpa using hx
      by_cases hf : k = .free
      · exact ⟨(n, k), List.mem_cons_self, hx'.symm, hf⟩
      · have hc : ¬ (k == NameKind.free && env.scope.kind == .function && env.kindOf n == some .cell) = true := by
          have : (k == NameKind.free) = false := by simpa using hf
          rw [this]; simp
        rw [if_neg hc] at h
        simp only [List.lookup_cons, hx] at h
        have : k = k' := Option.some.inj h
        subst this
        rcases hk with hk | hk
        · exact absurd hk (hn (n, k) List.mem_cons_self)
        · exact absurd hk hf
    | false =>
      have h' : List.lookup x (List.map (fun (n, k) => if (k == NameKind.free && env.scope.kind == .function && env.kindOf n == some .cell) then (n, NameKind.cell) else (n, k)) r) = some k' := by
        by_cases hc : (k == NameKind.free && env.scope.kind == .function && env.kindOf n == some .cell) = true
        · rw [if_pos hc] at h; simp only [List.lookup_cons, hx] at h; exact h
        · rw [if_neg hc] at h; simp only [List.lookup_cons, hx] at h; exact h
      obtain ⟨y, hy, h1, h2⟩ := ih h'
      exact ⟨y, List.mem_cons_of_mem _ hy, h1, h2⟩

/-- the context of a comprehension's block -/
def blk (X : Cx) (N : List Str) (scope : Scope) (cl : List (Str × Addr)) (C : Addr) (s3 : Shared) (H3 : Hp) (fp : List Addr) : Cx :=
  { X with N := N, s₀ := s3, H₀ := H3, env := compEnvC scope cl C X.env, outer := X.stack, ex := fp, fn := fun _ => false, pn := [], xe := fun _ _ => False }
def PTs (X : Cx) (ifs : List Expr) (t : TT) : Prop :=
  ∀ (pins : List (Addr × Obj)) (s : Shared) (σ : St) (H : Hp) (Q : Bool → Hp → Prop), Inv X pins σ H s → t σ H Q →
    wpAny (model X.prog X.w) X.A (forIn ifs true fun c r => if r = true then do let ok ← isTrue c X.env (eval c X.env); pure (ForInStep.yield ok) else pure (ForInStep.yield r)) (TP X pins σ Q) X.xe s
theorem pts_nil {X : Cx} : PTs X [] (fun _ H Q => Q true H) := fun _ _ _ H _ I h => wpAny_tests_nil ⟨H, I, h⟩
/-- one turn after another: the list so far -/
@[irreducible] def cPut (W : Nat → Nat → List V → St → Hp → Prop) (acc : Addr) (ys : List V) (i m : Nat) (σ2 : St) (v : V) (H5 : Hp) : Prop :=
  H5 acc = some (.lst ys) ∧ ∀ H6, Chg acc H5 H6 → H6 acc = some (.lst (ys ++ [v])) → ∃ m', m' < m ∧ W (i + 1) m' (ys ++ [v]) σ2 H6
@[irreducible] def cSkip (W : Nat → Nat → List V → St → Hp → Prop) (ys : List V) (i m : Nat) (σ2 : St) (H4 : Hp) : Prop := ∃ m', m' < m ∧ W (i + 1) m' ys σ2 H4
@[irreducible] def compW (J : It) (g : TG) (tt : TT) (te : TE) (σ0 : St) (H1 : Hp) (Q : VK) : Prop :=
  ∀ acc H2, H1 acc = none → Same H1 H2 → H2 acc = some (.lst []) → ∃ W : Nat → Nat → List V → St → Hp → Prop, (∃ m, W 0 m [] σ0 H2) ∧ ∀ i m ys σ H, W i m ys σ H → H acc = some (.lst ys) ∧ ys.length < sizeLine ∧
    ((J.stop i H ∧ Q (.ref acc) H) ∨ (J.go i H ∧ ∀ x H', J.yld i H x H' → g x σ H' fun σ2 H3 => tt σ2 H3 fun b H4 =>
      br b (te σ2 H4 fun v H5 => cPut W acc ys i m σ2 v H5) (cSkip W ys i m σ2 H4)))
section
variable {X : Cx} {pins : List (Addr × Obj)} {σ : St} {H : Hp} {s2 : Shared}
theorem blk_inv {N : List Str} {scope : Scope} {cl : List (Str × Addr)} {C : Addr} {s3 s4 : Shared} {H3 : Hp} {fp : List Addr} {σc : St} (I : Inv X pins σ H3 s3)
    (hcl1 : ∀ x c, cl.lookup x = some c → X.env.cells.lookup x = some c) (hcl2 : ∀ x ∈ scope.names, x.2 = .free → ∃ c, cl.lookup x.1 = some c) (hkind : scope.kind = .function) (hcell : ∀ y ∈ scope.names, y.2 ≠ .cell)
    (hcap : ∀ (i : Nat) (x : Str) (v : V), N[i]? = some x → σc[i]? = some (some v) → ∃ j : Nat, X.N[j]? = some x ∧ σ[j]? = some (some v) ∧ scope.names.lookup x = some .free ∧ (X.env.kindOf x = some .cell ∨ X.env.kindOf x = some .free))
    (hlen : σc.length = N.length) (hC : s3.heap.objs.size = C) (hfp : ∀ b ∈ fp, FpOk X pins H3 b) (hfpl : ∀ b ∈ fp, b < C) (hex : ∀ b o, X.base.get? b = some o → b ∉ fp) (hns : ∃ m, s4.heap.Ns C m) (hk : ∀ b o, s3.heap.get? b = some o → s4.heap.get? b = some o) (h4 : s4.os = s3.os) (h5 : s4.gens = s3.gens) :
    Inv (blk X N scope cl C s3 H3 fp) [] σc H3 s4 := by
  subst hC
  have look : ∀ x, (blk X N scope cl s3.heap.objs.size s3 H3 fp).env.kindOf x = (relabel scope X.env).names.lookup x := fun x => rfl
  have cne : ∀ x c, cl.lookup x = some c → c < s3.heap.objs.size := fun x c h => by
    obtain ⟨v, o, ho, _⟩ := I.cell x c (hcl1 x c h)
    exact Heap.lt_size ho
  refine ⟨⟨I.ok.mod, ?_, I.ok.glob, I.ok.blt, Nat.le_refl _, fun x y c h1 h2 => I.ok.inj x y c (hcl1 _ _ h1) (hcl1 _ _ h2), fun x hx => ?_, fun x c h => ?_, I.ok.hd, I.ok.frames, .inl rfl, fun b hb => ⟨Nat.ne_of_lt (hfpl b hb), fun x c h => ?_⟩, fun b o e => I.bs b o e, Nat.le_trans I.ok.bsz I.sz, fun b o e => hex b o e, fun b hb => ?_, I.stack, I.stkFree⟩,
    h4, by rw [h5]; exact I.bare, Un.kept hk, ?_, fun x c h => ?_, I.hok.fresh (Nat.le_refl _), fun x c h => I.freeC x c (hcl1 _ _ h), fun p hp => (by cases hp), I.hok.kept hk, hlen⟩
  · exact hkind
  · have hx' : (relabel scope X.env).names.lookup x = some .cell ∨ (relabel scope X.env).names.lookup x = some .free := hx
    have hz : ∃ y ∈ scope.names, y.1 = x ∧ y.2 = .free := by
      rcases hx' with q | q
      · exact relabel_kind hcell (.inl rfl) q
      · exact relabel_kind hcell (.inr rfl) q
    obtain ⟨y, hy, rfl, hf⟩ := hz
    exact hcl2 y hy hf
  · exact absurd (show false = true from h) Bool.false_ne_true
  · exact (hfp b hb).2.2.2.2.1 x c (hcl1 x c h)
  · have := (hfp b hb).1
    intro hz
    obtain ⟨f0, f1, f2, _⟩ := hfp b hb
    have hz : b ∈ frs X.stack := hz
    rcases List.mem_cons.mp (I.stkSub b hz) with q | q
    · exact f1 q
    · exact f2 q
  · obtain ⟨m, hm⟩ := hns
    refine ⟨m, hm, fun i x v h1 h2 h3 => ?_⟩
    obtain ⟨j, e1, e2, e3, e4⟩ := hcap i x v h1 h2
    obtain ⟨mX, _, hl⟩ := I.loc
    obtain ⟨u, r, q⟩ := hl j x v e1 e2 (by rcases e4 with e4 | e4; exact .inr (.inl e4); exact .inr (.inr e4))
    refine ⟨u, r, .inr ⟨relabel_free e3, ?_⟩⟩
    obtain ⟨c, hc⟩ := hcl2 (x, .free) (PySem.mem_of_lookup e3) rfl
    refine ⟨c, hc, ?_⟩
    have hc' := hcl1 x c hc
    rcases q with ⟨k, _⟩ | ⟨_, c2, e5, o, ho, hd⟩
    · rcases e4 with e4 | e4 <;> rw [e4] at k <;> cases k
    · rw [hc'] at e5
      cases e5
      exact ⟨o, hk _ _ ho, hd⟩
  · obtain ⟨v, o, ho, hd⟩ := I.cell x c (hcl1 x c h)
    exact ⟨v, o, hk _ _ ho, hd⟩
theorem comp_loop {prog : Program} {w : World} {A : Around} {R : Result → Shared → Prop} {s : Shared} {elt target iter : Expr} {ifs : List Expr} {scope : Scope} {pos : Pos} {it acc : Value} {env : Env} (I : Nat → Shared → Prop)
    (turn : ∀ n s, I n s → wpAny (model prog w) A (pyNext it) (fun r s₁ => match r with
      | none => R (.ok .next) s₁
      | some v => wpAny (model prog w) A (letOwnedTupleGo target it v) (fun _ s₁' => wpAny (model prog w) A (assign target env v) (fun _ s₂ =>
          wpAny (model prog w) A (forIn ifs true fun c r => if r = true then do let ok ← isTrue c env (eval c env); pure (ForInStep.yield ok) else pure (ForInStep.yield r)) (fun ok s₃ =>
            if ok = true then wpAny (model prog w) A (eval elt env) (fun x s₄ =>
              wpAny (model prog w) A (call (.builtin "list.append") [acc, x]) (fun _ s₅ => ∃ m, m < n ∧ I m s₅) (fun _ _ => False) s₄) (fun _ _ => False) s₃
            else ∃ m, m < n ∧ I m s₃) (fun _ _ => False) s₂) (fun _ _ => False) s₁') (fun _ _ => False) s₁) (fun _ _ => False) s)
    (n : Nat) (h : I n s) : codeAny (model prog w) A (.compLoop (.ListComp elt [⟨target, iter, ifs, 0⟩] scope pos) 0 it acc env) R s := by
  refine codeAny_loop rfl I (fun n s hI => ?_) n h
  show wpAny _ A ((compTurn (.ListComp elt [⟨target, iter, ifs, 0⟩] scope pos) 0 it acc env).onRaise (fun x => do noteFrame x env; theTreesLotGoes x)) _ _ s
  refine wpAny_noted ?_
  rw [compTurn_list]
  refine wpAny_bind (wpAny_standAt (wpAny_bind (wpAny_mono (turn n s hI) (fun r s₁ h₁ => ?_) fun _ _ h' => h'.elim)))
  cases r with
  | none => exact wpAny_pure h₁
  | some v =>
    refine wpAny_bind (wpAny_mono h₁ (fun _ s₁' h₁' => ?_) fun _ _ h' => h'.elim)
    refine wpAny_bind (wpAny_mono h₁' (fun _ s₂ h₂ => wpAny_bind (wpAny_mono h₂ (fun ok s₃ h₃ => ?_) fun _ _ h' => h'.elim)) fun _ _ h' => h'.elim)
    cases ok with
    | false => exact wpAny_pure ⟨rfl, h₃⟩
    | true =>
      exact wpAny_bind (wpAny_bind (wpAny_mono h₃ (fun x s₄ h₄ => wpAny_bind (wpAny_mono h₄ (fun _ s₅ h₅ => wpAny_pure (wpAny_pure ⟨rfl, h₅⟩)) fun _ _ h' => h'.elim)) fun _ _ h' => h'.elim))

theorem comp_core {E : Value → Shared → Prop} {elt tg iter : Expr} {ifs : List Expr} {scope : Scope} {pos : Pos} {cl : List (Str × Addr)} {N : List Str} {σc : St} {J : It} {fp : List Addr} {it : Addr} {tn : Nat → Heap → Prop} {g : TG} {tt : TT} {te : TE} {Q : VK}
    {RR : Value → Addr → Result → Shared → Prop}
    (hcl1 : ∀ x c, cl.lookup x = some c → X.env.cells.lookup x = some c) (hcl2 : ∀ x ∈ scope.names, x.2 = .free → ∃ c, cl.lookup x.1 = some c) (hkind : scope.kind = .function) (hcell : ∀ y ∈ scope.names, y.2 ≠ .cell)
    (hcap : ∀ (i : Nat) (x : Str) (v : V), N[i]? = some x → σc[i]? = some (some v) → ∃ j : Nat, X.N[j]? = some x ∧ σ[j]? = some (some v) ∧ scope.names.lookup x = some .free ∧ (X.env.kindOf x = some .cell ∨ X.env.kindOf x = some .free))
    (hlen : σc.length = N.length) (hc : X.calm = true) (I : Inv X pins σ H s2) (T : Turn X.prog X.w X.K tg J fp it tn) (st : tn 0 s2.heap) (fpok : ∀ b ∈ fp, FpOk X pins H b)
    (hg : ∀ C s3 H3 fp, PG (blk X N scope cl C s3 H3 fp) tg g) (ht : ∀ C s3 H3 fp, PTs (blk X N scope cl C s3 H3 fp) ifs tt) (he : ∀ C s3 H3 fp, PE (blk X N scope cl C s3 H3 fp) elt te)
    (h : compW J g tt te σc H Q)
    (hRR : ∀ (acc C : Addr) (H' : Hp) (s' : Shared), Inv X pins σ H' s' → FpOk X pins H' C → (∃ m, s'.heap.Ns C m) → Q (.ref acc) H' → RR (.ref acc) C (.ok .next) s') :
    wpAny (model X.prog X.w) X.A (newList []) (fun acc s₃ => wpAny (model X.prog X.w) X.A (newFunctionEnv scope X.env.globals cl [] X.env.qual none .none (some X.env)) (fun cenv s₄ =>
      codeAny (model X.prog X.w) X.A (.compStart (.ListComp elt [⟨tg, iter, ifs, 0⟩] scope pos) 0 (.ref it) acc { cenv with scope := relabel scope X.env }) (RR acc cenv.locals) s₄) E s₃) E s2 := by
  refine wpAny_newObj_type (wpAny_newFunctionEnv hcell (by intro y hy; simp at hy) (fun h₁ hns₁ hsb₁ => ?_) hkind)
  dsimp only at hns₁ hsb₁ ⊢
  have hf : H s2.heap.objs.size = none := I.fresh
  have I3 : Inv X pins σ (upd H s2.heap.objs.size (.lst [])) { s2 with heap := s2.heap.push { cls := .type "list", data := .seq ([] : List Value).toArray } } := I.lnew (t' := s2.toks) (its := []) .nil (Nat.zero_le _)
  generalize hs3 : ({ s2 with heap := s2.heap.push { cls := .type "list", data := .seq ([] : List Value).toArray } } : Shared) = s3 at I3
  have hH : s2.heap.push { cls := .type "list", dict := none, data := .seq ([] : List Value).toArray } = s3.heap := by rw [← hs3]
  rw [hH] at hns₁ hsb₁ ⊢
  have hsz : s3.heap.objs.size = s2.heap.objs.size + 1 := by rw [← hH, Heap.size_push]
  have old23 : ∀ b o, s2.heap.get? b = some o → s3.heap.get? b = some o := fun b o e => by rw [← hH]; exact Heap.get?_push_of_some _ e
  have fplt : ∀ b ∈ fp, b < s2.heap.objs.size := fun b hb => by
    obtain ⟨o, e, _⟩ := T.obj 0 _ st b hb
    exact Heap.lt_size e
  have fp3 : ∀ b ∈ fp, FpOk X pins (upd H s2.heap.objs.size (.lst [])) b := fun b hb => by
    obtain ⟨f0, f1⟩ := fpok b hb
    refine ⟨?_, f1⟩
    rw [upd_ne (Nat.ne_of_lt (fplt b hb))]
    exact f0
  have old34 : ∀ b o, s3.heap.get? b = some o → h₁.get? b = some o := fun b o e => hsb₁.extBut b o (Nat.ne_of_lt (Heap.lt_size e)) (Heap.get?_push_of_some _ e)
  have nob : ∀ b o, X.base.get? b = some o → b ∉ fp := fun b o e hb => by
    obtain ⟨_, _, _, f3, _, _⟩ := fpok b hb
    rcases f3 with f3 | f3
    · exact I.ok.noex b o e f3
    · exact absurd (Nat.lt_of_lt_of_le (Heap.lt_size e) I.ok.bsz) (Nat.not_lt.mpr f3)
  have hs4e : ({ s2 with heap := h₁, toks := s2.toks + ([] : List (Str × Value)).length } : Shared).os = s3.os := by rw [← hs3]
  have hs4g : ({ s2 with heap := h₁, toks := s2.toks + ([] : List (Str × Value)).length } : Shared).gens = s3.gens := by rw [← hs3]
  have I4 : Inv (blk X N scope cl s3.heap.objs.size s3 (upd H s2.heap.objs.size (.lst [])) fp) [] σc (upd H s2.heap.objs.size (.lst [])) { s2 with heap := h₁, toks := s2.toks + ([] : List (Str × Value)).length } :=
    blk_inv (s4 := { s2 with heap := h₁, toks := s2.toks + ([] : List (Str × Value)).length }) I3 hcl1 hcl2 hkind hcell hcap hlen rfl fp3 (fun b hb => Nat.lt_of_lt_of_le (fplt b hb) (by rw [hsz]; exact Nat.le_succ _)) nob ⟨_, hns₁⟩ old34 hs4e hs4g
  have st4 : tn 0 h₁ := T.keep _ _ _ st fun b hb o e => old34 b o (old23 b o e)
  unfold compW at h
  obtain ⟨W, ⟨m0, w0⟩, turn⟩ := h s2.heap.objs.size _ hf (Same.upd hf) upd_same
  have loop : codeAny (model X.prog X.w) X.A (.compLoop (.ListComp elt [⟨tg, iter, ifs, 0⟩] scope pos) 0 (.ref it) (.ref s2.heap.objs.size) (blk X N scope cl s3.heap.objs.size s3 (upd H s2.heap.objs.size (.lst [])) fp).env)
      (RR (.ref s2.heap.objs.size) s3.heap.objs.size) { s2 with heap := h₁, toks := s2.toks + ([] : List (Str × Value)).length } := by
    refine comp_loop (fun n s' => ∃ i ys σ' H', Inv (blk X N scope cl s3.heap.objs.size s3 (upd H s2.heap.objs.size (.lst [])) fp) [] σ' H' s' ∧ tn i s'.heap ∧ (∀ b ∈ fp, H' b = none) ∧ W i n ys σ' H') ?_ m0 ⟨0, [], σc, _, I4, st4, fun b hb => (fp3 b hb).1, w0⟩
    rintro n s5 ⟨i, ys, σ5, H5, I5, st5, fr5, w5⟩
    obtain ⟨hacc, hl5, hcase⟩ := turn i n ys σ5 H5 w5
    have stat : ∀ {H' : Hp}, (∀ b ∈ fp, H' b = none) → ∀ b ∈ fp, FpOk (blk X N scope cl s3.heap.objs.size s3 (upd H s2.heap.objs.size (.lst [])) fp) [] H' b := fun hn b hb => by
      obtain ⟨_, f1, f2, f3, f4, _⟩ := fpok b hb
      refine ⟨hn b hb, Nat.ne_of_lt (Nat.lt_of_lt_of_le (fplt b hb) (by rw [hsz]; exact Nat.le_succ _)), fun hz => ?_, .inl hb, fun x c hx => f4 x c (hcl1 x c hx), fun p hp => by cases hp⟩
      rcases List.mem_cons.mp (I.stkSub b hz) with q | q
      · exact f1 q
      · exact f2 q
    rcases hcase with ⟨stop, hq⟩ | ⟨go, step⟩
    · refine thn (T.done (blk X N scope cl s3.heap.objs.size s3 (upd H s2.heap.objs.size (.lst [])) fp) rfl rfl rfl hc i [] s5 σ5 H5 (fun _ _ => False) I5 (stat fr5) st5 stop) fun r s6 ⟨hr, I6⟩ => ?_
      subst hr
      have u1 : Un (frs X.stack) fp H (upd H s2.heap.objs.size (.lst [])) s2.heap s3.heap := Un.laid old23 (Nat.le_refl _) hf
      have u2 : Un (frs X.stack) fp (upd H s2.heap.objs.size (.lst [])) H5 s3.heap s6.heap := I6.base
      have hC : H5 s3.heap.objs.size = none := I6.free
      obtain ⟨m6, hm6, _⟩ := I6.loc
      have hos : s6.os = s2.os := by rw [I6.os]; show s3.os = s2.os; rw [← hs3]
      have hok6 := I6.hok
      have bare6 := I6.bare
      obtain ⟨hh, gg, dd, tt', os'⟩ := s6
      obtain rfl : os' = s2.os := hos
      exact hRR _ _ H5 _ (I.call (h' := hh) (g' := gg) (d' := dd) (t' := tt') (ch := fp) (u1.trans u2) hok6 bare6 fun b hb => ⟨(fpok b hb).2.2.2.1, (fpok b hb).2.1, (fpok b hb).2.2.2.2.1, (fpok b hb).2.2.2.2.2⟩)
        (I.fpOk (by rw [hsz]; exact Nat.le_succ _) hC) ⟨m6, hm6⟩ hq
    · refine thn (T.item (blk X N scope cl s3.heap.objs.size s3 (upd H s2.heap.objs.size (.lst [])) fp) rfl rfl rfl hc i [] s5 σ5 H5 (fun _ _ => False) I5 (stat fr5) st5 go) fun r s6 ⟨u, hr, h6⟩ => ?_
      subst hr
      refine thn h6 fun _ s7 ⟨x, H7, I7, r7, y7, st7, fr7⟩ => ?_
      have I7' := I7.pinned (stat fr7) (T.obj _ _ st7)
      refine thn (hg _ _ _ _ _ s7 σ5 H7 x u _ I7' r7 (step x H7 y7)) fun _ s8 ⟨σ8, H8, I8, q8⟩ => ?_
      refine thn (ht _ _ _ _ _ s8 σ8 H8 _ I8 q8) fun ok s9 ⟨H9, I9, q9⟩ => ?_
      have again : ∀ {s10 : Shared} {σ10 : St} {H10 : Hp} {zs : List V}, Inv (blk X N scope cl s3.heap.objs.size s3 (upd H s2.heap.objs.size (.lst [])) fp) ([] ++ pinsAt fp s7.heap) σ10 H10 s10 → (∃ m', m' < n ∧ W (i + 1) m' zs σ10 H10) →
          ∃ m, m < n ∧ ∃ i ys σ' H', Inv (blk X N scope cl s3.heap.objs.size s3 (upd H s2.heap.objs.size (.lst [])) fp) [] σ' H' s10 ∧ tn i s10.heap ∧ (∀ b ∈ fp, H' b = none) ∧ W i m ys σ' H' := fun {s10 σ10 H10 zs} I10 ⟨m', hm, w10⟩ => by
        refine ⟨m', hm, i + 1, zs, σ10, H10, I10.unpinned, T.keep _ _ _ st7 fun b hb o e => (I10.pin (b, o) (List.mem_append_right _ (List.mem_append_right _ (mem_pinsAt hb e)))).1, fun b hb => ?_, w10⟩
        obtain ⟨o, e, d⟩ := T.obj _ _ st7 b hb
        exact (I10.pin (b, o) (List.mem_append_right _ (List.mem_append_right _ (mem_pinsAt hb e)))).2.1
      dsimp only at q9
      rw [br_iff] at q9
      cases ok with
      | false =>
        have q9 : ∃ m', m' < n ∧ W (i + 1) m' ys σ8 H9 := by rw [if_neg Bool.false_ne_true] at q9; unfold cSkip at q9; exact q9
        exact again I9 q9
      | true =>
        have q9 := (if_pos rfl ▸ q9 : te σ8 H9 _)
        refine thn (he _ _ _ _ _ s9 σ8 H9 _ I9 q9) fun v s10 ⟨y, H10, I10, r10, q10⟩ => ?_
        unfold cPut at q10
        obtain ⟨e10, q10⟩ := q10
        refine thn (mt_append _ s10 σ8 H10 (.ref s2.heap.objs.size) [y] (.ref s2.heap.objs.size) [v] (fun _ H11 => ∃ m', m' < n ∧ W (i + 1) m' (ys ++ [y]) σ8 H11) I10 rfl (.cons r10 .nil) ⟨_, ys, y, rfl, rfl, e10, hl5, q10 _ Chg.upd upd_same⟩) fun _ s11 ⟨z, H11, I11, _, q11⟩ => ?_
        exact again I11 q11
  exact codeAny_compStart_list loop (T.self _ 0 _ _ _ st4 loop)
/-- what the block sees of the frame: by slots -/
def capS (ks : List (Option Nat)) (σ : St) : St := ks.map fun k => match k with
  | none => none
  | some j => (σ[j]?).join
inductive CapOk (X : Cx) (scope : Scope) : List Str → List (Option Nat) → Prop where
  | nil : CapOk X scope [] []
  | skip {x : Str} {N : List Str} {ks : List (Option Nat)} (t : CapOk X scope N ks) : CapOk X scope (x :: N) (none :: ks)
  | take {x : Str} {N : List Str} {ks : List (Option Nat)} {j : Nat} (h1 : X.N[j]? = some x) (h2 : scope.names.lookup x = some .free) (h3 : X.env.kindOf x = some .cell ∨ X.env.kindOf x = some .free) (t : CapOk X scope N ks) : CapOk X scope (x :: N) (some j :: ks)
theorem CapOk.cap {scope : Scope} {N : List Str} {ks : List (Option Nat)} (h : CapOk X scope N ks) (σ : St) : ∀ (i : Nat) (x : Str) (v : V), N[i]? = some x → (capS ks σ)[i]? = some (some v) → ∃ j : Nat, X.N[j]? = some x ∧ σ[j]? = some (some v) ∧ scope.names.lookup x = some .free ∧ (X.env.kindOf x = some .cell ∨ X.env.kindOf x = some .free) := by
  induction h with
  | nil => intro i x v h; simp at h
  | skip t ih =>
    intro i x v h1 h2
    cases i with
    | zero => simp [capS] at h2
    | succ i => exact ih i x v (by simpa using h1) (by simpa [capS] using h2)
  | take a b c t ih =>
    intro i x v h1 h2
    cases i with
    | zero =>
      simp only [List.getElem?_cons_zero, Option.some.injEq] at h1
      subst h1
      refine ⟨_, a, ?_, b, c⟩
      simpa [capS, Option.join_eq_some_iff] using h2
    | succ i => exact ih i x v (by simpa using h1) (by simpa [capS] using h2)
theorem CapOk.len {scope : Scope} {N : List Str} {ks : List (Option Nat)} (h : CapOk X scope N ks) (σ : St) : (capS ks σ).length = N.length := by
  have : ks.length = N.length := by
    induction h with
    | nil => rfl
    | skip t ih => simp [ih]
    | take a b c t ih => simp [ih]
  simp [capS, this]
def qComp (ks : List (Option Nat)) (wi : TI) (g : TG) (tt : TT) (te : TE) : TE := fun σ H Q => wi σ H fun J H1 => compW J g tt te (capS ks σ) H1 Q
def freeB (scope : Scope) (f : Str → Option NameKind) : Bool := scope.names.all fun x => x.2 != .free || (f x.1 == some .cell || f x.1 == some .free)
def scopeB (scope : Scope) : Bool := scope.names.all (fun x => x.2 != .cell) && scope.names.all fun x => x.2 != .local || scope.names.lookup x.1 == some .local
theorem freeB_ok {scope : Scope} {f : Str → Option NameKind} (h : freeB scope f = true) : ∀ x ∈ scope.names, x.2 = .free → f x.1 = some .cell ∨ f x.1 = some .free := fun x hx hf => by
  have := List.all_eq_true.mp h x hx
  simpa [hf] using this
theorem scopeB_ok {scope : Scope} (h : scopeB scope = true) : (∀ y ∈ scope.names, y.2 ≠ .cell) ∧ ∀ x ∈ scope.names, x.2 = .local → scope.names.lookup x.1 = some .local := by
  unfold scopeB at h
  rw [Bool.and_eq_true] at h
  refine ⟨fun y hy => ?_, fun x hx hl => ?_⟩
  · have := List.all_eq_true.mp h.1 y hy
    simpa using this
  · have := List.all_eq_true.mp h.2 x hx
    simpa [hl] using this
theorem peComp {elt tg iter : Expr} {ifs : List Expr} {scope : Scope} {pos : Pos} {N : List Str} {ks : List (Option Nat)} {wi : TI} {g : TG} {tt : TT} {te : TE} (hi : PI X tg iter wi)
    (hg : ∀ cl C s3 H3 fp, PG (blk X N scope cl C s3 H3 fp) tg g) (ht : ∀ cl C s3 H3 fp, PTs (blk X N scope cl C s3 H3 fp) ifs tt) (he : ∀ cl C s3 H3 fp, PE (blk X N scope cl C s3 H3 fp) elt te) (hcap : CapOk X scope N ks)
    (hc : X.calm = true := by rfl) (hkind : scope.kind = .function := by rfl) (hb : freeB scope X.env.kindOf = true := by rfl) (hn : scopeB scope = true := by rfl) (hs : ∀ x, foldedSetIterable iter X.env x = pure x := by intro _; rfl) :
    PE X (.ListComp elt [⟨tg, iter, ifs, 0⟩] scope pos) (qComp ks wi g tt te) := by
  intro pins s σ H Q I h
  obtain ⟨hcell, hnames⟩ := scopeB_ok hn
  obtain ⟨cl, hcl, hcl1, hcl2⟩ := closure_ok (scope := scope) (env := X.env) fun x hx hf => I.ok.has x.1 (freeB_ok hb x hx hf)
  rw [eval_ListComp]
  refine wpAny_comprehension_free (use := none) rfl hs hcl hkind hnames ?_
  show wpAny _ _ (eval iter X.env) _ _ s
  refine thn (hi pins s σ H _ I h) fun v s1 h1 => thn h1 fun itv s2 h2 => ?_
  obtain ⟨it, fp, tn, J, H2, e, I2, T, st2, f2, q2⟩ := h2
  subst e
  refine comp_core (RR := fun acc C => compPost (model X.prog X.w) X.A X.xe none (EP X pins σ Q) acc C) hcl1 hcl2 hkind hcell (hcap.cap σ) (hcap.len σ) hc I2 T st2 f2 (hg cl) (ht cl) (he cl) q2 ?_
  rintro acc C H' s' I' hC ⟨m, hm⟩ hq
  refine ⟨m, hm, fun h' hsb => ⟨.ref acc, H', ?_, rfl, hq⟩⟩
  exact I'.turned (t' := s'.toks) (fun b o hb e => hsb.extBut b o hb e) hC.1 hC.2.1 hC.2.2.2.1 hC.2.2.2.2.1 hC.2.2.2.2.2
/-- name = [.. for ..], the name a plain local -/
theorem psC {i : Nat} {y : Str} {py spos : Pos} {elt tg iter : Expr} {ifs : List Expr} {scope : Scope} {pos : Pos} {N : List Str} {ks : List (Option Nat)} {wi : TI} {g : TG} {tt : TT} {te : TE} (hN : X.N.Nodup) (hi : PI X tg iter wi)
    (hg : ∀ cl C s3 H3 fp, PG (blk X N scope cl C s3 H3 fp) tg g) (ht : ∀ cl C s3 H3 fp, PTs (blk X N scope cl C s3 H3 fp) ifs tt) (he : ∀ cl C s3 H3 fp, PE (blk X N scope cl C s3 H3 fp) elt te) (hcap : CapOk X scope N ks)
    (hy : X.N[i]? = some y := by rfl) (hl : X.env.scope.names.lookup y = some .local := by rfl) (hsw : swapsWith (.ListComp elt [⟨tg, iter, ifs, 0⟩] scope pos) (some (.Name y py)) spos.line X.env = pure true := by rfl)
    (hc : X.calm = true := by rfl) (hkind : scope.kind = .function := by rfl) (hb : freeB scope X.env.kindOf = true := by rfl) (hn : scopeB scope = true := by rfl) (hs : ∀ x, foldedSetIterable iter X.env x = pure x := by intro _; rfl) :
    PS X (.Assign [.Name y py] (.ListComp elt [⟨tg, iter, ifs, 0⟩] scope pos) spos) (tAsg (qComp ks wi g tt te) (gName i)) := by
  intro pins s σ H D I h
  obtain ⟨hcell, hnames⟩ := scopeB_ok hn
  obtain ⟨cl, hcl, hcl1, hcl2⟩ := closure_ok (scope := scope) (env := X.env) fun x hx hf => I.ok.has x.1 (freeB_ok hb x hx hf)
  rw [exec_Assign_Name_used _ _ _ _ hsw]
  refine wpAny_bind (wpAny_standAt (wpAny_bind ?_))
  show wpAny _ X.A (do let _ ← comprehension (.ListComp elt [⟨tg, iter, ifs, 0⟩] scope pos) scope X.env _ (newList []) false (eval iter X.env) (some (assign (.Name y py) X.env))) _ _ s
  refine wpAny_bind (wpAny_mono (wpAny_comprehension_free (use := some (assign (.Name y py) X.env)) (Q := fun _ s' => SP X pins D .next s') rfl hs hcl hkind hnames ?_) (fun _ s' hq => wpAny_pure (wpAny_pure hq)) fun _ _ e => e)
  refine thn (hi pins s σ H _ I h) fun v s1 h1 => thn h1 fun itv s2 h2 => ?_
  obtain ⟨it, fp, tn, J, H2, e, I2, T, st2, f2, q2⟩ := h2
  subst e
  refine comp_core (RR := fun acc C => compPost (model X.prog X.w) X.A X.xe (some (assign (.Name y py) X.env)) (fun _ s' => SP X pins D .next s') acc C) hcl1 hcl2 hkind hcell (hcap.cap σ) (hcap.len σ) hc I2 T st2 f2 (hg cl) (ht cl) (he cl) q2 ?_
  rintro acc C H' s' I' hC ⟨m, hm⟩ hq
  show wpAny _ _ (assign (.Name y py) X.env (.ref acc)) _ _ _
  refine wpAny_assign_Name (store_ok2 I' hN hy (.inl hl) (v := .ref acc) rfl (fun s'' I'' hsb => ?_) (.inr hl))
  obtain ⟨a, hsb, ha⟩ := hsb
  have hCa : C ≠ a := by
    rcases ha with ha | ha
    · rw [ha]; exact hC.2.1
    · exact (hC.2.2.2.2.1 y a ha).symm
  refine ⟨m, hm.sameBut hsb hCa, fun h' hsb' => ⟨σ.set i (some (.ref acc)), H', ?_, hq⟩⟩
  exact I''.turned (t' := s''.toks) (fun b o hb e => hsb'.extBut b o hb e) hC.1 hC.2.1 hC.2.2.2.1 hC.2.2.2.2.1 hC.2.2.2.2.2
end
/-! ### how a comprehension is read -/
section
variable {K : PySem.W.Frag} {g : TG} {tt : TT} {te : TE} {σ0 : St} {H1 : Hp} {Q : VK}
end
end L2

set_option Elab.async false
set_option linter.all false
set_option maxRecDepth 100000
set_option maxHeartbeats 2000000
namespace L2
open PySem PySem.Spec PyProof.Rows
section
variable {X : Cx}
/-! ### sum, all, list, tuple of what is read -/
@[irreducible] def rSumA (K : PySem.W.Frag) (p : Addr) (H : Hp) (Q : VK) : Prop := ∃ ns : List Int, SqL K H p (ns.map V.int) ∧ Q (.int ns.sum) H
def rSumM (K : PySem.W.Frag) : List V → Hp → VK → Prop := fun xs H Q => match xs with
  | [.ref p] => rSumA K p H Q
  | _ => False
theorem cSum (hc : X.calm = true) : CallR X (.builtin "sum") (rSumM X.K) := fun pins s σ H xs us Q I r h => by
  unfold rSumM at h
  split at h
  · unfold rSumA at h
    obtain ⟨ns, h1, h2⟩ := h
    obtain ⟨u, rfl, rx⟩ := vals1 r
    cases rx
    obtain ⟨its, r', pl, hz⟩ := I.list h1
    have hi := intsAre_of r'
    obtain ⟨ys, hx⟩ := hi.allInts.items
    have hl' : s.heap.IsList _ (intItems ys) := hx ▸ pl.isList
    refine sum_intListG (I.ok.hd hc) hl' fun h' tk t' hk => ?_
    have e1 : ns = ys.toList.map (·.1) := by
      rw [← nums_intItems, ← hx]
      exact (show numsOf its.toArray.toList = ns from hi.numsOf).symm
    have e2 : preSum (numAt ys) ys.size = ns.sum := by
      rw [preSum_eq, List.take_of_length_le (by simp), e1]
    rw [e2]
    exact ⟨.int ns.sum, H, I.kept hk, ⟨_, rfl⟩, h2⟩
  · exact h.elim
theorem sum_rd {K : PySem.W.Frag} {p : Addr} {H : Hp} {Q : VK} {ns : List Int} (h : H p = some (.lst (ns.map V.int))) (q : Q (.int ns.sum) H) : rSumA K p H Q := by unfold rSumA; exact ⟨ns, SqL.of h, q⟩
@[irreducible] def rListA (K : PySem.W.Frag) (p : Addr) (H : Hp) (Q : VK) : Prop := ∃ ys, (SqL K H p ys ∨ SqT K H p ys) ∧ ∀ l H', H l = none → Same H H' → H' l = some (.lst ys) → Q (.ref l) H'
def rListM (K : PySem.W.Frag) : List V → Hp → VK → Prop := fun xs H Q => match xs with
  | [.ref p] => rListA K p H Q
  | _ => False
theorem cList : CallR X (.type "list") (rListM X.K) := fun pins s σ H xs us Q I r h => by
  unfold rListM at h
  split at h
  · unfold rListA at h
    obtain ⟨ys, h1, h2⟩ := h
    exact call_list_of pins s σ H _ us Q I r ⟨_, ys, rfl, h1, fun l hl => h2 l _ hl (Same.upd hl) upd_same⟩
  · exact h.elim
theorem listL_rd {K : PySem.W.Frag} {p : Addr} {H : Hp} {Q : VK} {ys : List V} (h : SqL K H p ys) (q : ∀ l H', H l = none → Same H H' → H' l = some (.lst ys) → Q (.ref l) H') : rListA K p H Q := by unfold rListA; exact ⟨ys, .inl h, q⟩
/-! ### methods of lists -/
@[irreducible] def rLstIs (K : PySem.W.Frag) (p : Addr) (H : Hp) (R : Prop) : Prop := (∃ xs, SqL K H p xs) ∧ R
def qBM (K : PySem.W.Frag) (r : Addr → List V → Hp → VK → Prop) (to : TE) (t : TA) : TE := fun σ H Q => to σ H fun x H1 => match x with
  | .ref p => rLstIs K p H1 (t σ H1 fun xs H2 => r p xs H2 Q)
  | _ => False
theorem lst_is {K : PySem.W.Frag} {p : Addr} {H : Hp} {R : Prop} {xs : List V} (h : H p = some (.lst xs)) (q : R) : rLstIs K p H R := by unfold rLstIs; exact ⟨⟨xs, SqL.of h⟩, q⟩
def MtA (X : Cx) (id : String) (r : Addr → List V → Hp → VK → Prop) : Prop :=
  ∀ (pins : List (Addr × Obj)) (s : Shared) (σ : St) (H : Hp) (p : Addr) (xs : List V) (us : List Value) (Q : VK), Inv X pins σ H s → Vals xs us → r p xs H Q →
    wpAny (model X.prog X.w) X.A (call (.builtin id) (.ref p :: us)) (EP X pins σ Q) X.xe s
theorem peBM {o e : Expr} {es : List Expr} {to : TE} {t : TA} {name : Str} {apos cpos : Pos} {id : String} {r : Addr → List V → Hp → VK → Prop} (slot : Slot "list" name id) (hty : typeOf (.builtin id) = pure (.type "method_descriptor")) (hm : MtA X id r) (ho : PE X o to) (ha : PA X (e :: es) t)
    (hbase : attributeBase o name X.env (eval o X.env) = eval o X.env := by rfl)
    (hfew : ((backTo cpos (starEach (e :: es) X.env)).all (fun x => !x.1) && (backToKw cpos (keywordEach [] X.env)).all (fun x => x.1.isSome)
      && decide ((e :: es).length + ([] : List Keyword).length + (if ([] : List Keyword).isEmpty then 0 else 1) < 30)) = true := by rfl)
    (hline : (apos.endLine == cpos.line) = true := by rfl) (hs : starEach (e :: es) X.env = (false, eval e X.env) :: starEach es X.env := by rfl) (hplain : (backTo cpos (starEach es X.env)).any (·.1) = false := by rfl) :
    PE X (.Call (.Attribute o name apos) (e :: es) [] cpos) (qBM X.K r to t) := by
  intro pins s σ H Q I h
  refine wpAny_Call_method_late hbase hfew hline rfl (thn (ho pins s σ H _ I h) fun v s1 ⟨x, H1, I1, r1, q1⟩ => ?_)
  dsimp only at q1
  split at q1
  · rename_i p
    unfold rLstIs at q1
    obtain ⟨hq, q1⟩ := q1
    obtain ⟨h1, h2⟩ := tyV_is (T := "list") I1 r1 (.inl ⟨rfl, hq⟩)
    refine ⟨"list", id, PySem.F.plainAttrs_list, slot, hty, h1, h2, ?_⟩
    have hA := ha cpos pins s1 σ H1 _ I1 q1
    rw [hs] at hA ⊢
    refine Calls.callWith_builtin (by show (false || (backTo cpos (starEach es X.env)).any (·.1)) = false; rw [hplain] <;> rfl) (Calls.evalArgs_plain ?_)
    cases r1
    exact thn hA fun us s2 ⟨vs, H2, I2, r2, q2⟩ => hm pins s2 σ H2 p vs us Q I2 r2 q2
  · exact q1.elim
@[irreducible] def rAppA (p : Addr) (v : V) (H : Hp) (Q : VK) : Prop := ∃ xs, H p = some (.lst xs) ∧ xs.length < sizeLine ∧ ∀ H', Chg p H H' → H' p = some (.lst (xs ++ [v])) → Q .non H'
def rAppM : Addr → List V → Hp → VK → Prop := fun p vs H Q => match vs with
  | [v] => rAppA p v H Q
  | _ => False
theorem mAppend : MtA X "list.append" rAppM := fun pins s σ H p xs us Q I r h => by
  unfold rAppM at h
  split at h
  · unfold rAppA at h
    obtain ⟨ys, h1, h2, h3⟩ := h
    exact mt_append pins s σ H (.ref p) _ (.ref p) us Q I rfl r ⟨p, ys, _, rfl, rfl, h1, h2, h3 _ Chg.upd upd_same⟩
  · exact h.elim
theorem app_rd {p : Addr} {v : V} {H : Hp} {Q : VK} {xs : List V} (h : H p = some (.lst xs)) (hz : xs.length < sizeLine) (q : ∀ H', Chg p H H' → H' p = some (.lst (xs ++ [v])) → Q .non H') : rAppA p v H Q := by unfold rAppA; exact ⟨xs, h, hz, q⟩
theorem peM_append {o e : Expr} {to : TE} {t : TA} {apos cpos : Pos} (ho : PE X o to) (ha : PA X [e] t) (hbase : attributeBase o "append" X.env (eval o X.env) = eval o X.env := by rfl)
    (hfew : ((backTo cpos (starEach [e] X.env)).all (fun x => !x.1) && (backToKw cpos (keywordEach [] X.env)).all (fun x => x.1.isSome)
      && decide ([e].length + ([] : List Keyword).length + (if ([] : List Keyword).isEmpty then 0 else 1) < 30)) = true := by rfl)
    (hline : (apos.endLine == cpos.line) = true := by rfl) (hs : starEach [e] X.env = (false, eval e X.env) :: starEach [] X.env := by rfl) (hplain : (backTo cpos (starEach [] X.env)).any (·.1) = false := by rfl) : PE X (.Call (.Attribute o "append" apos) [e] [] cpos) (qBM X.K rAppM to t) :=
  peBM PySem.F.slot_list_append PySem.F.type_list_append mAppend ho ha hbase hfew hline hs hplain
/-! ### name op= e -/
/-! ### is None -/
def rIsM : R2 := fun x y H Q => match y with
  | .non => Q (.bl (decide (x = .non))) H
  | _ => False
theorem oIs : OpR X (compareOp .Is) rIsM := by
  intro pins s σ H x y v u Q I rx ry h
  unfold rIsM at h
  split at h
  · exact op_isN pins s σ H _ _ v u Q I rx ry ⟨rfl, h⟩
  · exact h.elim
/-! ### a, b = a list -/
section
variable {prog : Program} {w : World} {A : Around} {E : Value → Shared → Prop} {s : Shared}
theorem draw_list {it t : Addr} {items : Array Value} (hne : t ≠ it) : ∀ (n i : Nat) (s : Shared) (Q : List Value → Shared → Prop), s.heap.IsListIter it t i → s.heap.IsList t items → i + n ≤ items.size →
    (∀ h', h'.IsListIter it t (i + n) → Heap.SameBut it s.heap h' → Q ((items.toList.drop i).take n) { s with heap := h' }) → wpAny (model prog w) A (draw (.ref it) n) Q E s
  | 0, i, s, Q, hit, _, _, hQ => by
    show wpAny _ _ (pure []) Q E s
    exact wpAny_pure (by simpa using hQ s.heap hit (Heap.SameBut.refl ..))
  | n + 1, i, s, Q, hit, ht, hle, hQ => by
    have hlt : i < items.size := by omega
    show wpAny _ _ (pyNext (.ref it) >>= _) Q E s
    refine wpAny_bind (wpAny_pyNext_list_item hit ht (x := items[i]) (by simp [hlt]) fun h₁ hit₁ hs₁ => ?_)
    refine wpAny_bind (wpAny_holding (draw_list hne n (i + 1) _ _ hit₁ (ht.extBut hs₁.extBut hne) (by omega) fun h₂ hit₂ hs₂ => wpAny_pure ?_))
    have hd : items.toList.drop i = items[i] :: items.toList.drop (i + 1) := by simp [List.drop_eq_getElem_cons, hlt]
    have := hQ h₂ (by rw [show i + (n + 1) = i + 1 + n by omega]; exact hit₂) (hs₁.trans hs₂)
    rw [hd, List.take_succ_cons] at this
    exact this
theorem assign_Tuple_list {env : Env} {elts : List Expr} {x1} {pos : Pos} {t : Addr} {items : Array Value} {Q : Unit → Shared → Prop} (hh : A.handled = none) (ht : s.heap.IsList t items)
    (hn : (assignEach elts env).length = items.size) (hstar : (assignEach elts env).findIdx? (·.1) = none)
    (h : ∀ h', Heap.ExtBut s.heap.objs.size s.heap h' → wpAny (model prog w) A (assignInOrder ((assignEach elts env).map (·.2)) items.toList) Q E { s with heap := h' }) :
    wpAny (model prog w) A (assign (.Tuple elts x1 pos) env (.ref t)) Q E s := by
  rw [assign_Tuple]
  refine wpAny_bind (wpAny_standAt ?_)
  unfold unpack
  rw [hn, hstar]
  refine wpAny_bind (wpAny_holding ?_)
  have hlt : t ≠ s.heap.objs.size := by obtain ⟨o, ho, _⟩ := ht; exact Nat.ne_of_lt (Heap.lt_size ho)
  unfold unpackItems
  refine wpAny_bind ?_
  unfold notIterableAtAll
  refine wpAny_bind (wpAny_specialOf ht.typeIs F.slot_list_iter.lookup ?_)
  refine wpAny_pure ?_
  simp only [Bool.false_eq_true, if_false]
  refine wpAny_bind (wpAny_holding (wpAny_pyIter_list ht ?_))
  refine wpAny_bind (wpAny_holding (draw_list hlt items.size 0 _ _ ⟨_, Heap.get?_push_size _ rfl, rfl, rfl⟩ (ht.push _) (by omega) fun h₁ hit₁ hs₁ => ?_))
  have hall : List.take items.size (List.drop 0 items.toList) = items.toList := by
    rw [List.drop_zero]; exact List.take_of_length_le (by simp)
  rw [hall]
  rw [if_neg (by simp)]
  have ht₁ : h₁.IsList t items := (ht.push _).extBut hs₁.extBut hlt
  refine wpAny_bind (wpAny_holding (wpAny_pyNext_list_end hh hit₁ ht₁ (by simp) fun h₂ he₂ => ?_))
  simp only [Option.isSome_none, Bool.false_eq_true, if_false]
  exact wpAny_pure (h h₂ fun b o hb e => he₂ b o hb (hs₁.extBut b o hb (Heap.get?_push_of_some _ e)))
end
@[irreducible] def rUnpA (K : PySem.W.Frag) (a : Addr) (n : Nat) (t : TGs) (σ : St) (H : Hp) (Q : St → Hp → Prop) : Prop := ∃ xs, (SqT K H a xs ∨ SqL K H a xs) ∧ xs.length = n ∧ t xs σ H Q
def qgAny (K : PySem.W.Frag) (n : Nat) (t : TGs) : TG := fun v σ H Q => match v with
  | .ref a => rUnpA K a n t σ H Q
  | _ => False
theorem pgAny {pos : Pos} {es : List Expr} {k : Nat} {t : TGs} {n : Nat} (hc : X.calm = true) (h : PGs X es t)
    (hn : (assignEach es X.env).length = n := by rfl) (hst : (assignEach es X.env).findIdx? (·.1) = none := by rfl) : PG X (.Tuple es k pos) (qgAny X.K n t) := fun pins s σ H v u Q I r hq => by
  unfold qgAny at hq
  split at hq
  · unfold rUnpA at hq
    obtain ⟨xs, a1, a2, a3⟩ := hq
    rcases a1 with a1 | a1
    · exact pg_tup hc h hn hst pins s σ H _ u Q I r ⟨_, xs, rfl, a1, a2, a3⟩
    · cases r
      obtain ⟨its, rv, pl, hz⟩ := I.list a1
      refine assign_Tuple_list (I.ok.hd hc) pl.isList (by simp [hn, ← a2, rv.length]) hst fun h' hx => ?_
      have I1 : Inv X pins σ H { s with heap := h' } := I.kept (t' := s.toks) fun b o e => hx b o (Nat.ne_of_lt (Heap.lt_size e)) e
      exact h pins _ σ H xs _ Q I1 (by simpa using rv) a3
  · exact hq.elim
theorem unpT_rd {K : PySem.W.Frag} {a : Addr} {n : Nat} {t : TGs} {σ : St} {H : Hp} {Q : St → Hp → Prop} {xs : List V} (h : H a = some (.tup xs)) (q : t xs σ H Q) (e : xs.length = n := by rfl) : rUnpA K a n t σ H Q := by
  unfold rUnpA; exact ⟨xs, .inl (SqT.of h), e, q⟩
end
/-! ### two objects may have changed -/
def Chg2 (a c : Addr) (H H' : Hp) : Prop := ∀ b o, b ≠ a → b ≠ c → H b = some o → H' b = some o
theorem Chg2.refl (a c : Addr) (H : Hp) : Chg2 a c H H := fun _ _ _ _ e => e
theorem Chg2.trans {a c : Addr} {H H1 H2 : Hp} (x : Chg2 a c H H1) (y : Chg2 a c H1 H2) : Chg2 a c H H2 := fun b o h1 h2 e => y b o h1 h2 (x b o h1 h2 e)
theorem Chg.toL {a c : Addr} {H H1 : Hp} (x : Chg a H H1) : Chg2 a c H H1 := fun b o h1 _ e => x b o h1 e
theorem Chg.toR {a c : Addr} {H H1 : Hp} (x : Chg c H H1) : Chg2 a c H H1 := fun b o _ h2 e => x b o h2 e
theorem Same.to2 {a c : Addr} {H H1 : Hp} (x : Same H H1) : Chg2 a c H H1 := fun b o _ _ e => x b o e
theorem Chg2.at {a c b : Addr} {o : HO} {H H' : Hp} (x : Chg2 a c H H') (e : H b = some o) (h1 : b ≠ a) (h2 : b ≠ c) : H' b = some o := x b o h1 h2 e
/-! == with an empty list -/
/-! ### comprehensions whose elements change things: the word speaks of the heap by itself -/
def cV (n : Nat) (acc : Addr) (Pv : Nat → List V → St → Hp → Prop) : Nat → Nat → List V → St → Hp → Prop := fun i m ys σ H => m = n - i ∧ i ≤ n ∧ ys.length ≤ i ∧ H acc = some (.lst ys) ∧ Pv i ys σ H
section
variable {K : PySem.W.Frag} {g : TG} {tt : TT} {te : TE} {σ0 : St} {H1 : Hp} {Q : VK}
theorem cputV_rd {n i m : Nat} {acc : Addr} {Pv : Nat → List V → St → Hp → Prop} {ys : List V} {σ2 : St} {v : V} {H5 : Hp} (hi : i < n) (hm : m = n - i) (hl : ys.length ≤ i) (ha : H5 acc = some (.lst ys))
    (q : ∀ H6, Chg acc H5 H6 → H6 acc = some (.lst (ys ++ [v])) → Pv (i + 1) (ys ++ [v]) σ2 H6) : cPut (cV n acc Pv) acc ys i m σ2 v H5 := by
  unfold cPut
  exact ⟨ha, fun H6 hc h6 => ⟨n - (i + 1), by omega, rfl, by omega, by rw [List.length_append, List.length_singleton]; omega, h6, q H6 hc h6⟩⟩
theorem comp_rangeV {lo : Int} {n : Nat} (hn : n < sizeLine) (h : ∀ acc H2, H1 acc = none → Same H1 H2 → H2 acc = some (.lst []) → ∃ Pv : Nat → List V → St → Hp → Prop, Pv 0 [] σ0 H2 ∧
    (∀ i m ys σ H, i < n → m = n - i → ys.length ≤ i → H acc = some (.lst ys) → Pv i ys σ H → g (.int (lo + i)) σ H fun σ2 H3 => tt σ2 H3 fun b H4 => br b (te σ2 H4 fun v H5 => cPut (cV n acc Pv) acc ys i m σ2 v H5) (cSkip (cV n acc Pv) ys i m σ2 H4)) ∧
    ∀ ys σ H, H acc = some (.lst ys) → Pv n ys σ H → Q (.ref acc) H) : compW (Itr lo n) g tt te σ0 H1 Q := by
  unfold compW
  intro acc H2 hf hs ha
  obtain ⟨Pv, h0, turn, fin⟩ := h acc H2 hf hs ha
  refine ⟨cV n acc Pv, ⟨n, by simp, Nat.zero_le _, Nat.le_refl _, ha, h0⟩, ?_⟩
  rintro i m ys σ H ⟨hm, hi, hl, ha', hp⟩
  refine ⟨ha', by omega, ?_⟩
  by_cases hlt : i < n
  · refine .inr ⟨hlt, fun x H' y => ?_⟩
    obtain ⟨e, y⟩ := y
    subst e y
    exact turn i m ys σ _ hlt hm hl ha' hp
  · have e : i = n := by omega
    subst e
    exact .inl ⟨Nat.le_refl _, fin ys σ H ha' hp⟩
end
/-! ### the rules by the written part itself, so that a block's reading hangs on nothing of the block -/
section
variable {X : Cx} {K : PySem.W.Frag}
theorem slK (hK : X.K = K) : SlR X (rSlM K) := by subst hK; exact slM
theorem peIxK {a b : Expr} {ta tb : TE} {pos : Pos} (hK : X.K = K) (ha : PE X a ta) (hb : PE X b tb) (hs : PlainIx b := by exact fun _ _ => rfl) : PE X (.Subscript a b pos) (tOp (rIxM K) ta tb) := by subst hK; exact peIx ha hb hs
theorem cLenK (hK : X.K = K) : CallR X (.builtin "len") (rLenM K) := by subst hK; exact cLen
theorem cIsiK (hK : X.K = K) : CallR X (.builtin "isinstance") (rIsiM K) := by subst hK; exact cIsi
theorem cSumK (hK : X.K = K) (hc : X.calm = true) : CallR X (.builtin "sum") (rSumM K) := by subst hK; exact cSum hc
theorem cListK (hK : X.K = K) : CallR X (.type "list") (rListM K) := by subst hK; exact cList
theorem oEqK (hK : X.K = K) (hu : X.A.units + 40 < cLine) : OpR X (compareOp .Eq) (rEqM K) := by subst hK; exact oEq hu
theorem oNeK (hK : X.K = K) (hu : X.A.units + 40 < cLine) : OpR X (compareOp .NotEq) (rNeM K) := by subst hK; exact oNe hu
theorem piSeqK {tg l : Expr} {tl : TE} (hK : X.K = K) (hl : PE X l tl) : PI X tg l (qiSeq K tl) := by subst hK; exact piSeq hl
theorem pgAnyK {pos : Pos} {es : List Expr} {k : Nat} {t : TGs} {n : Nat} (hK : X.K = K) (hc : X.calm = true) (h : PGs X es t)
    (hn : (assignEach es X.env).length = n := by rfl) (hst : (assignEach es X.env).findIdx? (·.1) = none := by rfl) : PG X (.Tuple es k pos) (qgAny K n t) := by subst hK; exact pgAny hc h hn hst
end
end L2

set_option Elab.async false
set_option linter.all false
set_option maxRecDepth 100000
set_option maxHeartbeats 2000000
namespace L2
open PySem PySem.Spec PyProof.Rows
/-! ### enumerate over a list -/
def Ite (K : PySem.W.Frag) (a : Addr) : It :=
  ⟨fun i H => ∃ xs x, SqL K H a xs ∧ xs[i]? = some x, fun i H v H' => ∃ p y, v = .ref p ∧ H p = none ∧ Same H H' ∧ H' p = some (.tup [.int i, y]) ∧ ∀ xs, SqL K H a xs → xs[i]? = some y, fun i H => ∃ xs, SqL K H a xs ∧ xs.length ≤ i⟩
section
variable {X : Cx} {K : PySem.W.Frag}
@[irreducible] def rEnum (K : PySem.W.Frag) (a : Addr) (H : Hp) (R : It → Hp → Prop) : Prop := (∃ xs, SqL K H a xs) ∧ R (Ite K a) H
def qiEnum (K : PySem.W.Frag) (ta : TA) : TI := fun σ H R => ta σ H fun vs H1 => match vs with
  | [.ref a] => rEnum K a H1 R
  | _ => False
end
section
variable {K : PySem.W.Frag} {g : TG} {tb : TS} {D : Ends} {σ : St} {H : Hp} {R : It → Hp → Prop}
end
section
variable {K : PySem.W.Frag} {g : TG} {tt : TT} {te : TE} {σ0 : St} {H1 : Hp} {Q : VK}
end
/-! ### list.count of flat things -/
section
variable {X : Cx} {K : PySem.W.Frag}
theorem count_eqU {x : V} : ∀ {xs : List V} {us : List Value}, Vals xs us → xs.all flatV = true → us.countP (eqU x) = xs.countP fun y => eqV y x
  | _, _, .nil, _ => rfl
  | y :: xs, u :: us, .cons r t, f => by
    rw [List.all_cons, Bool.and_eq_true] at f
    rw [List.countP_cons, List.countP_cons, eqU_of r f.1, count_eqU t f.2]
@[irreducible] def rCntA (p : Addr) (x : V) (H : Hp) (Q : VK) : Prop := ∃ xs, H p = some (.lst xs) ∧ flatV x = true ∧ xs.all flatV = true ∧ Q (.int (xs.countP fun y => eqV y x : Nat)) H
def rCntM : Addr → List V → Hp → VK → Prop := fun p vs H Q => match vs with
  | [v] => rCntA p v H Q
  | _ => False
theorem mCount : MtA X "list.count" rCntM := fun pins s σ H p xs us Q I r h => by
  unfold rCntM at h
  split at h
  · rename_i v
    unfold rCntA at h
    obtain ⟨ys, h1, h2, h3, h4⟩ := h
    obtain ⟨u, rfl, ru⟩ := r.one
    obtain ⟨z, its, n, r', hl, e⟩ := I.lstM h1
    refine call_meets F.slot_list_count ⟨_, e, rfl⟩ F.entry_list_count (F.args_list_count_2 _ _) (SeqAt.list_countAt p its.toArray n none #[] u (eqU v)) ⟨e, fun y hy => mem_eqAt ru h2 r' h3 y (by simpa using hy), ?_⟩
    have ec : its.toArray.toList.countP (eqU v) = ys.countP fun y => eqV y v := count_eqU r' h3
    exact ⟨.int _, H, I.tok _, ⟨_, by rw [ec]⟩, h4⟩
  · exact h.elim
theorem cnt_rd {p : Addr} {x : V} {H : Hp} {Q : VK} {xs : List V} (h : H p = some (.lst xs)) (h1 : flatV x = true) (h2 : xs.all flatV = true) (q : Q (.int (xs.countP fun y => eqV y x : Nat)) H) : rCntA p x H Q := by unfold rCntA; exact ⟨xs, h, h1, h2, q⟩
theorem peM_count {o e : Expr} {to : TE} {t : TA} {apos cpos : Pos} (hK : X.K = K) (ho : PE X o to) (ha : PA X [e] t) (hbase : attributeBase o "count" X.env (eval o X.env) = eval o X.env := by rfl)
    (hfew : ((backTo cpos (starEach [e] X.env)).all (fun x => !x.1) && (backToKw cpos (keywordEach [] X.env)).all (fun x => x.1.isSome)
      && decide ([e].length + ([] : List Keyword).length + (if ([] : List Keyword).isEmpty then 0 else 1) < 30)) = true := by rfl)
    (hline : (apos.endLine == cpos.line) = true := by rfl) (hs : starEach [e] X.env = (false, eval e X.env) :: starEach [] X.env := by rfl) (hplain : (backTo cpos (starEach [] X.env)).any (·.1) = false := by rfl) : PE X (.Call (.Attribute o "count" apos) [e] [] cpos) (qBM K rCntM to t) := by
  subst hK
  exact peBM PySem.F.slot_list_count PySem.F.type_list_count mCount ho ha hbase hfew hline hs hplain
end
end L2

set_option Elab.async false
set_option linter.all false
set_option maxRecDepth 100000
set_option maxHeartbeats 2000000
namespace L2
open PySem PySem.Spec PyProof.Rows
/-! ### slices -/
theorem cut_drop {xs : List V} {k : Int} (h : 0 ≤ k) : cutV xs (some k) none = xs.drop k.toNat := by
  show List.take (xs.length - (if k < 0 then (k + (xs.length : Int)).toNat else min k.toNat xs.length)) (List.drop (if k < 0 then (k + (xs.length : Int)).toNat else min k.toNat xs.length) xs) = _
  rw [if_neg (by omega)]
  by_cases hk : k.toNat ≤ xs.length
  · rw [Nat.min_eq_left hk, List.take_of_length_le (by rw [List.length_drop]; omega)]
  · rw [Nat.min_eq_right (by omega), List.drop_of_length_le (by omega), List.drop_of_length_le (by omega), List.take_nil]
theorem cut_takeV {xs : List V} {k : Int} (h : 0 ≤ k) : cutV xs none (some k) = xs.take k.toNat := by
  show List.take ((if k < 0 then (k + (xs.length : Int)).toNat else min k.toNat xs.length) - 0) (List.drop 0 xs) = _
  rw [if_neg (by omega), List.drop_zero, Nat.sub_zero]
  by_cases hk : k.toNat ≤ xs.length
  · rw [Nat.min_eq_left hk]
  · rw [Nat.min_eq_right (by omega), List.take_of_length_le (Nat.le_refl _), List.take_of_length_le (by omega)]
/-! ### rows of ints, by a function -/
def rowV (n : Nat) (r : Nat → Int) : List V := (List.range n).map fun t => V.int (r t)
theorem rowV_len (n : Nat) (r : Nat → Int) : (rowV n r).length = n := by unfold rowV; simp
theorem rowV_get {n : Nat} {r : Nat → Int} {i : Nat} (h : i < n) : (rowV n r)[i]? = some (.int (r i)) := by unfold rowV; simp [h]
theorem rowV_ext {n : Nat} {r s : Nat → Int} (h : ∀ t, t < n → r t = s t) : rowV n r = rowV n s := by
  unfold rowV
  refine List.map_congr_left fun t ht => ?_
  rw [h t (List.mem_range.mp ht)]
/-! ### an item by a place -/
/-! ### a list of rows -/
structure GridAt (H : Hp) (a : Addr) (ps : List Addr) (n h : Nat) (g : Nat → Nat → Int) : Prop where
  out : H a = some (.lst (ps.map V.ref))
  len : ps.length = n
  row : ∀ (i : Nat) (p : Addr), ps[i]? = some p → H p = some (.lst (rowV h (g i)))
theorem GridAt.same {H H' : Hp} {a : Addr} {ps : List Addr} {n h : Nat} {g : Nat → Nat → Int} (G : GridAt H a ps n h g) (s : Same H H') : GridAt H' a ps n h g := ⟨s _ _ G.out, G.len, fun i p e => s _ _ (G.row i p e)⟩
theorem GridAt.ext {H : Hp} {a : Addr} {ps : List Addr} {n h : Nat} {g g' : Nat → Nat → Int} (G : GridAt H a ps n h g) (e : ∀ i t, i < n → t < h → g i t = g' i t) : GridAt H a ps n h g' :=
  ⟨G.out, G.len, fun i p q => by rw [G.row i p q]; rw [rowV_ext fun t ht => e i t (by have := (List.getElem?_eq_some_iff.mp q).1; have := G.len; omega) ht]⟩
theorem GridAt.some {H : Hp} {a : Addr} {ps : List Addr} {n h : Nat} {g : Nat → Nat → Int} (G : GridAt H a ps n h g) {i : Nat} (hi : i < n) : ∃ p, ps[i]? = .some p ∧ H p = .some (.lst (rowV h (g i))) := by
  have hl : i < ps.length := by rw [G.len]; exact hi
  exact ⟨ps[i], List.getElem?_eq_getElem hl, G.row i _ (List.getElem?_eq_getElem hl)⟩
/-! ### comprehensions, by what is walked -/
structure Wk (J : It) (n : Nat) (H1 : Hp) (X : Nat → V → Hp → Prop) : Prop where
  go : ∀ i H, Same H1 H → i < n → J.go i H
  stop : ∀ H, Same H1 H → J.stop n H
  yld : ∀ i H x H', Same H1 H → i < n → J.yld i H x H' → Same H H' ∧ X i x H'
theorem Wk.range {lo : Int} {n : Nat} {H1 : Hp} : Wk (Itr lo n) n H1 fun i x _ => x = .int (lo + i) :=
  ⟨fun i H _ h => h, fun H _ => Nat.le_refl _, fun i H x H' _ _ y => by obtain ⟨rfl, rfl⟩ := y; exact ⟨Same.refl _, rfl⟩⟩
theorem Wk.list {K : PySem.W.Frag} {a : Addr} {xs : List V} {H1 : Hp} (h : SqL K H1 a xs) : Wk (Itl K a) xs.length H1 fun i x _ => xs[i]? = some x :=
  ⟨fun i H s hi => ⟨xs, xs[i], s.seq h, by simp [hi]⟩, fun H s => ⟨xs, s.seq h, Nat.le_refl _⟩, fun i H x H' s _ y => by
    obtain ⟨e, y⟩ := y
    subst e
    exact ⟨Same.refl _, y xs (s.seq h)⟩⟩
/-- new lists, one for each turn -/
structure FreshL (H1 H : Hp) (acc : Addr) (ps : List Addr) (n : Nat) (f : Nat → HO) : Prop where
  facc : H1 acc = none
  same : Same H1 H
  out : H acc = some (.lst (ps.map V.ref))
  len : ps.length = n
  nd : ps.Nodup
  nin : acc ∉ ps
  row : ∀ i p, ps[i]? = some p → H1 p = none ∧ H p = some (f i)
theorem FreshL.free {H1 H : Hp} {acc : Addr} {ps : List Addr} {n : Nat} {f : Nat → HO} (F : FreshL H1 H acc ps n f) {p : Addr} (h : p ∈ ps) : H1 p = none := by
  obtain ⟨i, hi⟩ := List.getElem?_of_mem h
  exact (F.row i p hi).1
theorem FreshL.some {H1 H : Hp} {acc : Addr} {ps : List Addr} {n : Nat} {f : Nat → HO} (F : FreshL H1 H acc ps n f) {i : Nat} (hi : i < n) : ∃ p, ps[i]? = .some p ∧ H p = .some (f i) := by
  have hl : i < ps.length := by rw [F.len]; exact hi
  exact ⟨ps[i], List.getElem?_eq_getElem hl, (F.row i _ (List.getElem?_eq_getElem hl)).2⟩
section
variable {K : PySem.W.Frag} {g : TG} {tt : TT} {te : TE} {σ0 : St} {H1 : Hp} {Q : VK} {J : It} {n : Nat} {X : Nat → V → Hp → Prop}
/-- each turn tells a new object -/
theorem comp_F (w : Wk J n H1 X) (hn : n < sizeLine) (f : Nat → HO) (Ps : Nat → St → Prop) (h0 : Ps 0 σ0)
    (turn : ∀ i x σ H (R : St → V → Hp → Prop) (S : St → Hp → Prop), i < n → Same H1 H → X i x H → Ps i σ → (∀ σ2 p H5, H p = none → Same H H5 → H5 p = some (f i) → Ps (i + 1) σ2 → R σ2 (.ref p) H5) → g x σ H fun σ2 H3 => tt σ2 H3 fun b H4 => br b (te σ2 H4 fun v H5 => R σ2 v H5) (S σ2 H4))
    (fin : ∀ acc ps H, FreshL H1 H acc ps n f → Q (.ref acc) H) : compW J g tt te σ0 H1 Q := by
  unfold compW
  intro acc H2 hf hs ha
  refine ⟨fun i m ys σ H => m = n - i ∧ i ≤ n ∧ ∃ ps : List Addr, ys = ps.map V.ref ∧ FreshL H1 H acc ps i f ∧ Ps i σ, ⟨n, by simp, Nat.zero_le _, [], rfl, ⟨hf, hs, ha, rfl, List.nodup_nil, by simp, fun i p e => by simp at e⟩, h0⟩, ?_⟩
  rintro i m ys σ H ⟨rfl, hi, ps, rfl, F, P⟩
  refine ⟨F.out, by rw [List.length_map, F.len]; omega, ?_⟩
  by_cases hlt : i < n
  · refine .inr ⟨w.go i H F.same hlt, fun x H' y => ?_⟩
    obtain ⟨s1, x1⟩ := w.yld i H x H' F.same hlt y
    refine turn i x σ H' (fun σ2 v H5 => cPut _ acc (ps.map V.ref) i (n - i) σ2 v H5) (fun σ2 H4 => cSkip _ (ps.map V.ref) i (n - i) σ2 H4) hlt (F.same.trans s1) x1 P ?_
    intro σ2 p H5 fp s5 hp P2
    have fp0 : H p = none := s1.free fp
    have s15 := s1.trans s5
    have na : p ≠ acc := Ne.symm (ne_of_none F.out fp0)
    unfold cPut
    refine ⟨s15 _ _ F.out, fun H6 c6 h6 => ⟨n - (i + 1), by omega, rfl, hlt, ps ++ [p], by rw [List.map_append]; rfl, ⟨F.facc, (F.same.trans s15).chg F.facc c6, by rw [List.map_append]; exact h6, by rw [List.length_append, F.len]; rfl, ?_, ?_, ?_⟩, P2⟩⟩
    · rw [List.nodup_append]
      refine ⟨F.nd, by simp, fun a ha b hb => ?_⟩
      have : b = p := by simpa using hb
      subst this
      obtain ⟨k, hk⟩ := List.getElem?_of_mem ha
      exact ne_of_none (F.row k a hk).2 fp0
    · intro hz
      rcases List.mem_append.mp hz with hz | hz
      · exact F.nin hz
      · exact na (by simpa using hz : acc = p).symm
    · intro k q e
      by_cases hk : k < ps.length
      · rw [List.getElem?_append_left hk] at e
        obtain ⟨z1, z2⟩ := F.row k q e
        exact ⟨z1, c6 _ _ (fun z => F.nin (z ▸ List.mem_of_getElem? e)) (s15 _ _ z2)⟩
      · rw [List.getElem?_append_right (by omega)] at e
        have hk2 : k - ps.length = 0 := by
          have := (List.getElem?_eq_some_iff.mp e).1
          simp at this; omega
        rw [hk2] at e
        have : p = q := by simpa using e
        subst this
        have : k = i := by have := F.len; omega
        subst this
        exact ⟨F.same.free fp0, c6 _ _ na hp⟩
  · have e : i = n := by omega
    subst e
    exact .inl ⟨w.stop H F.same, fin acc ps H F⟩
/-- each turn tells a value, or is left out -/
theorem comp_I (w : Wk J n H1 X) (hn : n < sizeLine) (f : Nat → V) (p : Nat → Bool) (Ps : Nat → St → Prop) (h0 : Ps 0 σ0)
    (turn : ∀ i x σ H (R : St → V → Hp → Prop) (S : St → Hp → Prop), i < n → Same H1 H → X i x H → Ps i σ → (p i = true → ∀ σ2 H5, Same H H5 → Ps (i + 1) σ2 → R σ2 (f i) H5) → (p i = false → ∀ σ2 H5, Same H H5 → Ps (i + 1) σ2 → S σ2 H5) →
      g x σ H fun σ2 H3 => tt σ2 H3 fun b H4 => br b (te σ2 H4 fun v H5 => R σ2 v H5) (S σ2 H4))
    (fin : ∀ acc H, H1 acc = none → Same H1 H → H acc = some (.lst (((List.range n).filter p).map f)) → Q (.ref acc) H) : compW J g tt te σ0 H1 Q := by
  unfold compW
  intro acc H2 hf hs ha
  refine ⟨fun i m ys σ H => m = n - i ∧ i ≤ n ∧ ys = ((List.range i).filter p).map f ∧ Same H1 H ∧ H acc = some (.lst ys) ∧ Ps i σ, ⟨n, by simp, Nat.zero_le _, rfl, hs, ha, h0⟩, ?_⟩
  rintro i m ys σ H ⟨rfl, hi, rfl, s, hy, P⟩
  have hlen : (((List.range i).filter p).map f).length ≤ i := by
    rw [List.length_map]
    have := List.length_filter_le p (List.range i)
    rwa [List.length_range] at this
  refine ⟨hy, by omega, ?_⟩
  by_cases hlt : i < n
  · refine .inr ⟨w.go i H s hlt, fun x H' y => ?_⟩
    obtain ⟨s1, x1⟩ := w.yld i H x H' s hlt y
    refine turn i x σ H' (fun σ2 v H5 => cPut _ acc _ i (n - i) σ2 v H5) (fun σ2 H4 => cSkip _ _ i (n - i) σ2 H4) hlt (s.trans s1) x1 P ?_ ?_
    · intro hp σ2 H5 s5 P2
      unfold cPut
      refine ⟨s5 _ _ (s1 _ _ hy), fun H6 c6 h6 => ⟨n - (i + 1), by omega, rfl, hlt, ?_, ((s.trans s1).trans s5).chg hf c6, h6, P2⟩⟩
      rw [List.range_succ, List.filter_append, List.map_append]
      congr 1
      simp [hp]
    · intro hp σ2 H5 s5 P2
      unfold cSkip
      refine ⟨n - (i + 1), by omega, rfl, hlt, ?_, (s.trans s1).trans s5, s5 _ _ (s1 _ _ hy), P2⟩
      rw [List.range_succ, List.filter_append, List.map_append]
      simp [hp]
  · have e : i = n := by omega
    subst e
    exact .inl ⟨w.stop H s, fin acc H hf s hy⟩
theorem filter_T (n : Nat) : (List.range n).filter (fun _ => true) = List.range n := by simp
end
/-! ### several objects may have changed -/
def ChgS (ps : List Addr) (H H' : Hp) : Prop := ∀ b o, b ∉ ps → H b = some o → H' b = some o
theorem ChgS.refl (ps : List Addr) (H : Hp) : ChgS ps H H := fun _ _ _ e => e
theorem ChgS.same {ps : List Addr} {H H1 H2 : Hp} (x : ChgS ps H H1) (y : Same H1 H2) : ChgS ps H H2 := fun b o h e => y b o (x b o h e)
theorem Same.chgS {ps : List Addr} {H0 H H' : Hp} (s : Same H0 H) (n : ∀ p ∈ ps, H0 p = none) (c : ChgS ps H H') : Same H0 H' := fun b o e => c b o (fun z => by rw [n b z] at e; cases e) (s b o e)
/-! ### == of lists of ints; of lists of these -/
theorem all_true (n : Nat) : (List.range n).all (fun _ => true) = true := by simp
end L2

set_option Elab.async false
set_option linter.all false
set_option maxRecDepth 100000
set_option maxHeartbeats 2000000
namespace L2
open PySem PySem.Spec PyProof.Rows
/-! ### range downwards -/
def Itd (hi : Int) (n : Nat) : It := ⟨fun i _ => i < n, fun i H x H' => H' = H ∧ x = .int (hi - i), fun i _ => n ≤ i⟩
section
variable {X : Cx} {tg : Expr}
@[irreducible] def rRangeD (i j : Int) (H : Hp) (R : It → Hp → Prop) : Prop := (-(2 ^ 62) ≤ i ∧ i < 2 ^ 62 ∧ -(2 ^ 62) ≤ j ∧ j < 2 ^ 62) ∧ R (Itd i (i - j).toNat) H
def qiRngD (ta : TA) : TI := fun σ H R => ta σ H fun vs H1 => match vs with
  | [.int i, .int j, .int (-1)] => rRangeD i j H1 R
  | _ => False
end
section
variable {K : PySem.W.Frag} {g : TG} {tb : TS} {D : Ends} {σ : St} {H : Hp} {R : It → Hp → Prop}
end
/-! ### methods of lists without arguments; extend -/
section
variable {X : Cx} {K : PySem.W.Frag}
def qBM0 (K : PySem.W.Frag) (r : Addr → List V → Hp → VK → Prop) (to : TE) : TE := fun σ H Q => to σ H fun x H1 => match x with
  | .ref p => rLstIs K p H1 (r p [] H1 Q)
  | _ => False
theorem peBM0 {o : Expr} {to : TE} {name : Str} {apos cpos : Pos} {id : String} {r : Addr → List V → Hp → VK → Prop} (slot : Slot "list" name id) (hty : typeOf (.builtin id) = pure (.type "method_descriptor")) (hm : MtA X id r) (ho : PE X o to)
    (hbase : attributeBase o name X.env (eval o X.env) = eval o X.env := by rfl) (hline : (apos.endLine == cpos.line) = true := by rfl) :
    PE X (.Call (.Attribute o name apos) [] [] cpos) (qBM0 X.K r to) := by
  intro pins s σ H Q I h
  refine wpAny_Call_method0_late hbase hline (thn (ho pins s σ H _ I h) fun v s1 ⟨x, H1, I1, r1, q1⟩ => ?_)
  dsimp only at q1
  split at q1
  · rename_i p
    unfold rLstIs at q1
    obtain ⟨hq, q1⟩ := q1
    obtain ⟨h1, h2⟩ := tyV_is (T := "list") I1 r1 (.inl ⟨rfl, hq⟩)
    cases r1
    exact ⟨"list", id, PySem.F.plainAttrs_list, slot, hty, h1, h2, Calls.callWith_builtin rfl (PySem.evalArgs_none (hm pins s1 σ H1 p [] [] Q I1 .nil q1))⟩
  · exact q1.elim
@[irreducible] def rRevA (p : Addr) (H : Hp) (Q : VK) : Prop := ∃ xs, H p = some (.lst xs) ∧ ∀ H', Chg p H H' → H' p = some (.lst xs.reverse) → Q .non H'
def rRevM : Addr → List V → Hp → VK → Prop := fun p vs H Q => match vs with
  | [] => rRevA p H Q
  | _ => False
theorem mReverse : MtA X "list.reverse" rRevM := fun pins s σ H p xs us Q I r h => by
  unfold rRevM at h
  split at h
  · unfold rRevA at h
    obtain ⟨ys, h1, h2⟩ := h
    exact mt_reverse pins s σ H (.ref p) [] (.ref p) us Q I rfl r ⟨p, ys, rfl, rfl, h1, h2 _ Chg.upd upd_same⟩
  · exact h.elim
theorem peM_reverse {o : Expr} {to : TE} {apos cpos : Pos} (hK : X.K = K) (ho : PE X o to) (hbase : attributeBase o "reverse" X.env (eval o X.env) = eval o X.env := by rfl) (hline : (apos.endLine == cpos.line) = true := by rfl) : PE X (.Call (.Attribute o "reverse" apos) [] [] cpos) (qBM0 K rRevM to) := by
  subst hK
  exact peBM0 PySem.F.slot_list_reverse PySem.F.type_list_reverse mReverse ho hbase hline
theorem rev_rd {p : Addr} {H : Hp} {Q : VK} {xs : List V} (h : H p = some (.lst xs)) (q : ∀ H', Chg p H H' → H' p = some (.lst xs.reverse) → Q .non H') : rRevA p H Q := by unfold rRevA; exact ⟨xs, h, q⟩
/-! ### xs[::-1] -/
theorem fm_congr {α β : Type} {f g : α → Option β} : ∀ {l : List α}, (∀ a ∈ l, f a = g a) → l.filterMap f = l.filterMap g
  | [], _ => rfl
  | a :: l, h => by
    rw [List.filterMap_cons, List.filterMap_cons, h a List.mem_cons_self, fm_congr fun b hb => h b (List.mem_cons_of_mem _ hb)]
theorem slicePick_rev (its : List Value) : slicePick its.toArray none none (some (-1)) = its.reverse.toArray := by
  unfold slicePick sliceBounds sliceRange
  simp only [Option.getD_some, show ¬ (-1 : Int) > 0 by decide, if_false, List.size_toArray]
  by_cases h0 : its.length = 0
  · have : its = [] := List.length_eq_zero_iff.mp h0
    subst this
    rfl
  · have hgt : ((its.length : Int) - 1) > -1 := by omega
    simp only [hgt, if_true]
    have e1 : (((its.length : Int) - 1 - -1 - -1 - 1) / (- -1)).toNat = its.length := by
      rw [show -(-1 : Int) = 1 by decide, Int.ediv_one]; omega
    rw [e1]
    congr 1
    rw [List.filterMap_map]
    have hk : ∀ k ∈ List.range its.length, ((fun x => its.toArray[x]?) ∘ fun k : Nat => ((its.length : Int) - 1 + -1 * (k : Int)).toNat) k = (some ∘ fun k => its.getD (its.length - 1 - k) .none) k := fun k hk => by
      have hk := List.mem_range.mp hk
      show its.toArray[((its.length : Int) - 1 + -1 * (k : Int)).toNat]? = some (its.getD (its.length - 1 - k) .none)
      rw [show ((its.length : Int) - 1 + -1 * (k : Int)).toNat = its.length - 1 - k by omega, List.getElem?_toArray, List.getD_eq_getElem?_getD, List.getElem?_eq_getElem (by omega)]
      rfl
    rw [fm_congr hk, List.filterMap_eq_map]
    apply List.ext_getElem?
    intro i
    by_cases hi : i < its.length
    · rw [List.getElem?_map, List.getElem?_range hi, List.getElem?_reverse hi, List.getElem?_eq_getElem (by omega)]
      show some (its.getD (its.length - 1 - i) .none) = _
      rw [List.getD_eq_getElem?_getD, List.getElem?_eq_getElem (by omega)]
      rfl
    · rw [List.getElem?_eq_none (by simp; omega), List.getElem?_eq_none (by simp; omega)]
@[irreducible] def rRvA (K : PySem.W.Frag) (a : Addr) (H : Hp) (Q : VK) : Prop := ∃ xs, SqL K H a xs ∧ ∀ p H', H p = none → Same H H' → H' p = some (.lst xs.reverse) → Q (.ref p) H'
def qRv (K : PySem.W.Frag) (te : TE) : TE := fun σ H Q => te σ H fun x H1 => match x with
  | .ref a => rRvA K a H1 Q
  | _ => False
theorem peRv {e : Expr} {te : TE} {p1 p2 p3 pos : Pos} (hK : X.K = K) (he : PE X e te) : PE X (.Subscript e (.Slice none none (some (.UnaryOp .USub (.Constant (.int 1) 0 p1) p3)) p2) pos) (qRv K te) := by
  subst hK
  intro pins s σ H Q I h
  refine Subscript_ (thn (he pins s σ H _ I h) fun v s1 ⟨x, H1, I1, r1, q1⟩ => ?_)
  dsimp only at q1
  split at q1
  case h_2 => exact q1.elim
  rename_i a
  unfold rRvA at q1
  obtain ⟨xs, hx, q⟩ := q1
  refine wpAny_Slice ?_
  rw [evalPart_none]
  refine wpAny_pure (wpAny_pure ?_)
  rw [evalPart_some]
  refine thn (pe_un (X := X) uNeg pe_int pins s1 σ H1 (fun y H2 => y = .int (-1) ∧ H2 = H1) I1 ⟨rfl, rfl⟩) fun u s2 ⟨y, H2, I2, r2, q2⟩ => ?_
  obtain ⟨rfl, rfl⟩ := q2
  obtain ⟨t, rfl⟩ := r2
  cases r1
  have I4 : Inv X pins σ H2 { s2 with heap := s2.heap.push { cls := .type "slice", data := .fields #[.none, .none, .int (-1) t] } } := I2.kept (t' := s2.toks) fun b ob q => Heap.get?_push_of_some _ q
  obtain ⟨its, r, ht, hz⟩ := I4.list hx
  have hlen := r.length
  refine tail_any (ops := [.ref a, .ref s2.heap.objs.size]) ht.isList.typeIs F.slot_list_getitem.lookup ?_ (by with_unfolding_all rfl)
  refine wpAny_getItem_list_slice ht.isList (Heap.IsSliceOf.new ..) .none .none (.int (-1) t) (by simp) ?_ (by rw [List.size_toArray] <;> omega)
  rw [slicePick_rev]
  have hf := I4.hok.fresh (Nat.le_refl _)
  refine ⟨.ref _, _, I4.laid (t' := s2.toks) (o := .lst xs.reverse) (fun b ob q => Heap.get?_push_of_some _ q) (Nat.le_refl _) ?_, rfl, q _ _ hf (Same.upd hf) upd_same⟩
  exact ⟨by rw [List.length_reverse]; exact hz, _, 0, r.reverse, Heap.get?_push_size _ rfl⟩
theorem rv_rd {a : Addr} {H : Hp} {Q : VK} {xs : List V} (h : SqL K H a xs) (q : ∀ p H', H p = none → Same H H' → H' p = some (.lst xs.reverse) → Q (.ref p) H') : rRvA K a H Q := by unfold rRvA; exact ⟨xs, h, q⟩
/-! ### min of a list of ints -/
theorem ptW {e : Expr} {t : TT} (h : PW X e t) : PT X e t := h.pt
end
end L2

set_option Elab.async false
set_option linter.all false
set_option maxRecDepth 100000
set_option maxHeartbeats 2000000
namespace L2
open PySem PySem.Spec PyProof.Rows
/-! ### an exception in flight, with its own dict: what notes a frame leaves it as it is but for its entry -/
/-- its record: no entry yet, or an entry that is in no frame's flight -/
def ExAt (B h : Heap) (e : Addr) (cls : Value) (dx : Option Addr) : Prop :=
  ∃ (oe : Obj) (vs : Array Value), h.get? e = some oe ∧ oe.cls = cls ∧ oe.dict = dx ∧ oe.data = .fields vs ∧ 1 < vs.size ∧
    (vs[1]? = some .none ∨ ∃ (T : Addr) (oT : Obj) (ts : Array Value), vs[1]? = some (.ref T) ∧ B.get? T = none ∧ T ≠ e ∧ h.get? T = some oT ∧ oT.data = .fields ts ∧ 3 < ts.size ∧ ts[3]? = some .none)
/-- nothing is gone -/
def Th (h h' : Heap) : Prop := ∀ b o, h.get? b = some o → ∃ o', h'.get? b = some o'
structure FlyX (B : Heap) (l : List Env) (e : Addr) (cls : Value) (dx : Option Addr) (h : Heap) : Prop where
  stays : B.StaysIn h
  new : B.get? e = none
  frames : h.FunFrames B l
  ex : ExAt B h e cls dx
section
variable {M : Model} {A : Around} {E : Value → Shared → Prop} {s : Shared} {B : Heap} {env : Env} {outer : List Env} {L e : Addr} {cls : Value} {dx : Option Addr} {Q : Unit → Shared → Prop}
theorem mapFields_parts (f : Array Value → Array Value) (o : Obj) : (Obj.mapFields f o).cls = o.cls ∧ (Obj.mapFields f o).dict = o.dict := by
  obtain ⟨c, d, dt, sl⟩ := o
  cases dt <;> exact ⟨rfl, rfl⟩
theorem entry_fly {head : Value} {hn : Bool} {oe : Obj} {vs : Array Value} (hfr : A.frames = some (env :: outer)) (hf : env.frame = some L) (f1 : B.StaysIn s.heap) (f2 : B.get? e = none) (f3 : s.heap.FunFrames B (env :: outer))
    (he : s.heap.get? e = some oe) (hc : oe.cls = cls) (hdx : oe.dict = dx) (hd : oe.data = .fields vs) (hsz : 1 < vs.size)
    (hQ : ∀ h', FlyX B (env :: outer) e cls dx h' → s.heap.UpToSlots h' → Th s.heap h' → Q () { s with heap := h' }) :
    wpAny M A (do let a ← frameOf env; let pl ← entryPlaceOf L hn; let b ← EntryCells.newEntry head a .none (rawInt L) .none pl; setField (.ref e) 1 b) (fun _ s1 => wpAny M A (setFlight (.ref e) none) Q E s1) E s := by
  have hene : e ∉ (env :: outer).filterMap (·.frame) := fun hm => by
    obtain ⟨_, o, ho, hnf⟩ := f3.mem hm
    rw [he] at ho
    cases ho
    exact hnf vs hd
  refine wpAny_bind (wpAny_frameOf_fun hfr f3 hf fun g hg => wpAny_bind (wpAny_entryPlaceOf fun pl hpl => ?_))
  refine wpAny_bind (wpAny_newObj_type ?_ (hpl.sizeOk5 _ _ _ _ _))
  have e1 : g.get? e = some oe := (hg.2.1 e hene).trans he
  have lt1 := Heap.lt_size e1
  generalize hO : ({ cls := .type "traceback", data := .fields ([head, .ref L, .none, rawInt L, .none] ++ (if pl.isEmpty then List.replicate 6 Value.none else pl)).toArray } : Obj) = O
  have hOd : O.data = .fields ([head, .ref L, .none, rawInt L, .none] ++ (if pl.isEmpty then List.replicate 6 Value.none else pl)).toArray := by rw [← hO]
  have hOz : 3 < ([head, .ref L, .none, rawInt L, .none] ++ (if pl.isEmpty then List.replicate 6 Value.none else pl)).toArray.size := by simp
  have hOf : O.isFreed = false := by rw [← hO]; rfl
  generalize ([head, .ref L, .none, rawInt L, .none] ++ (if pl.isEmpty then List.replicate 6 Value.none else pl)).toArray = ts at hOd hOz
  have e2 : (g.push O).get? e = some oe := Heap.get?_push_of_some _ e1
  have t2 : (g.push O).get? g.objs.size = some O := Heap.get?_push_size _ hOf
  have nT : g.objs.size ≠ e := Nat.ne_of_gt lt1
  refine wpAny_setField e2 hd hsz ?_
  have d3 := Obj.data_mapFields hd (fun a => a.setIfInBounds 1 (Value.ref g.objs.size))
  have e3 := Heap.get?_update_self (Obj.mapFields fun a => a.setIfInBounds 1 (Value.ref g.objs.size)) e2 (Obj.isFreed_of_fields d3)
  have t3 := (Heap.get?_update_other (g.push O) (Obj.mapFields fun a => a.setIfInBounds 1 (Value.ref g.objs.size)) (Ne.symm nT)).trans t2
  unfold setFlight
  refine wpAny_bind (wpAny_field e3 d3 (x := .ref g.objs.size) (by simp [hsz]) ?_)
  rw [if_pos (by simp)]
  refine wpAny_setField t3 hOd hOz (hQ _ ?_ ?_ ?_)
  · have kp : ∀ b o, b ≠ e → g.get? b = some o → (((g.push O).update e (Obj.mapFields fun a => a.setIfInBounds 1 (Value.ref g.objs.size))).update g.objs.size (Obj.mapFields fun a => a.setIfInBounds 3 Value.none)).get? b = some o := fun b o hb hz => by
      rw [Heap.get?_update_other _ _ (Nat.ne_of_gt (Heap.lt_size hz)), Heap.get?_update_other _ _ (Ne.symm hb)]
      exact Heap.get?_push_of_some _ hz
    have d4 := Obj.data_mapFields hOd (fun a => a.setIfInBounds 3 Value.none)
    have t4 := Heap.get?_update_self (Obj.mapFields fun a => a.setIfInBounds 3 Value.none) t3 (Obj.isFreed_of_fields d4)
    have e4 := (Heap.get?_update_other ((g.push O).update e (Obj.mapFields fun a => a.setIfInBounds 1 (Value.ref g.objs.size))) (Obj.mapFields fun a => a.setIfInBounds 3 Value.none) nT).trans e3
    have pf := mapFields_parts (fun a => a.setIfInBounds 1 (Value.ref g.objs.size)) oe
    refine ⟨fun b o hb => kp b o (fun z => by rw [z, f2] at hb; cases hb) ((hg.2.1 b fun hm => by rw [(f3.mem hm).1] at hb; cases hb).trans (f1 b o hb)), f2, f3.of_keeps fun b o hb hnf => ?_, _, _, e4, pf.1.trans hc, pf.2.trans hdx, d3, by simpa using hsz, .inr ⟨_, _, _, by simp [hsz], ?_, nT, t4, d4, by simpa using hOz, by simp [hOz]⟩⟩
    · obtain ⟨sl, hs⟩ := hg.2.2 b o hb
      refine ⟨_, kp b _ (fun z => ?_) hs, rfl⟩
      rw [z, he] at hb
      cases hb
      exact hnf vs hd
    · cases q : B.get? g.objs.size with
      | none => rfl
      | some o =>
        have z1 := f1 _ _ q
        have z2 := (hg.2.1 _ fun hm => by rw [(f3.mem hm).1] at q; cases q).trans z1
        exact absurd (Heap.lt_size z2) (Nat.lt_irrefl _)
  · intro b o hb hnf
    obtain ⟨sl, hs⟩ := hg.2.2 b o hb
    refine ⟨sl, ?_⟩
    rw [Heap.get?_update_other _ _ (Nat.ne_of_gt (Heap.lt_size hs)), Heap.get?_update_other _ _ (fun z => ?_)]
    · exact Heap.get?_push_of_some _ hs
    · rw [← z, he] at hb
      cases hb
      exact hnf vs hd
  · intro b o hb
    by_cases hbe : b = e
    · subst hbe
      exact ⟨_, (Heap.get?_update_other _ _ nT).trans e3⟩
    · obtain ⟨sl, hs⟩ := hg.2.2 b o hb
      refine ⟨{ o with slots := sl }, ?_⟩
      rw [Heap.get?_update_other _ _ (Nat.ne_of_gt (Heap.lt_size hs)), Heap.get?_update_other _ _ (Ne.symm hbe)]
      exact Heap.get?_push_of_some _ hs
theorem note_fly (hfr : A.frames = some (env :: outer)) (hf : env.frame = some L) (F : FlyX B (env :: outer) e cls dx s.heap)
    (hQ : ∀ h', FlyX B (env :: outer) e cls dx h' → s.heap.UpToSlots h' → Th s.heap h' → Q () { s with heap := h' }) : wpAny M A (noteFrame (.ref e) env) (fun _ s1 => wpAny M A (setFlight (.ref e) none) Q E s1) E s := by
  obtain ⟨f1, f2, f3, oe, vs, he, hc, hdx, hd, hsz, hT⟩ := F
  unfold noteFrame
  rw [hf]
  rcases hT with h1 | ⟨T, oT, ts, h1, bT, nT, gT, dT, zT, vT⟩
  · refine wpAny_bind (wpAny_field he hd h1 ?_)
    dsimp only
    rw [if_neg (by simp)]
    exact entry_fly hfr hf f1 f2 f3 he hc hdx hd hsz hQ
  · refine wpAny_bind (wpAny_field he hd h1 ?_)
    dsimp only
    rw [if_pos (by simp)]
    refine wpAny_bind (wpAny_field gT dT vT ?_)
    rw [if_neg (by simp [rawInt])]
    refine wpAny_bind (wpAny_setField gT dT zT ?_)
    have ne : ∀ b o, s.heap.get? b = some o → (∀ vs, o.data ≠ .fields vs) → b ≠ T := fun b o hb hnf z => by
      rw [z, gT] at hb
      cases hb
      exact hnf ts dT
    have kp : ∀ b o, b ≠ T → s.heap.get? b = some o → (s.heap.update T (Obj.mapFields fun a => a.setIfInBounds 3 Value.none)).get? b = some o := fun b o hb hz => by
      rw [Heap.get?_update_other _ _ (Ne.symm hb)]; exact hz
    refine entry_fly (s := { s with heap := s.heap.update T (Obj.mapFields fun a => a.setIfInBounds 3 Value.none) }) hfr hf (fun b o hb => kp b o (fun z => by rw [z, bT] at hb; cases hb) (f1 b o hb)) f2 (f3.of_keeps fun b o hb hnf => ⟨o, kp b o (ne b o hb hnf) hb, rfl⟩)
      (kp e oe (Ne.symm nT) he) hc hdx hd hsz fun h' F' U W => hQ h' F' (fun b o hb hnf => U b o (kp b o (ne b o hb hnf) hb) hnf) fun b o hb => ?_
    by_cases hbT : b = T
    · subst hbT
      exact W b _ (Heap.get?_update_self (Obj.mapFields fun a => a.setIfInBounds 3 Value.none) gT (Obj.isFreed_of_fields (Obj.data_mapFields dT _)))
    · exact W b o (kp b o hbT hb)
theorem set_fly (F : FlyX B outer e cls dx s.heap) (hQ : ∀ h', FlyX B outer e cls dx h' → s.heap.UpToSlots h' → Th s.heap h' → Q () { s with heap := h' }) : wpAny M A (setFlight (.ref e) none) Q E s := by
  obtain ⟨f1, f2, f3, oe, vs, he, hc, hdx, hd, hsz, hT⟩ := F
  unfold setFlight
  rcases hT with h1 | ⟨T, oT, ts, h1, bT, nT, gT, dT, zT, vT⟩
  · refine wpAny_bind (wpAny_field he hd h1 ?_)
    rw [if_neg (by simp)]
    exact wpAny_pure (hQ s.heap ⟨f1, f2, f3, oe, vs, he, hc, hdx, hd, hsz, .inl h1⟩ (Heap.UpToSlots.refl _) fun b o hb => ⟨o, hb⟩)
  · refine wpAny_bind (wpAny_field he hd h1 ?_)
    rw [if_pos (by simp)]
    refine wpAny_setField gT dT zT ?_
    have kp : ∀ b o, b ≠ T → s.heap.get? b = some o → (s.heap.update T (Obj.mapFields fun a => a.setIfInBounds 3 Value.none)).get? b = some o := fun b o hb hz => by
      rw [Heap.get?_update_other _ _ (Ne.symm hb)]; exact hz
    have ne : ∀ b o, s.heap.get? b = some o → (∀ vs, o.data ≠ .fields vs) → b ≠ T := fun b o hb hnf z => by
      rw [z, gT] at hb
      cases hb
      exact hnf ts dT
    have d4 := Obj.data_mapFields dT (fun a => a.setIfInBounds 3 Value.none)
    have t4 := Heap.get?_update_self (Obj.mapFields fun a => a.setIfInBounds 3 Value.none) gT (Obj.isFreed_of_fields d4)
    exact hQ _ ⟨fun b o hb => kp b o (fun z => by rw [z, bT] at hb; cases hb) (f1 b o hb), f2, f3.of_keeps fun b o hb hnf => ⟨o, kp b o (ne b o hb hnf) hb, rfl⟩, oe, vs, kp e oe (Ne.symm nT) he, hc, hdx, hd, hsz,
      .inr ⟨T, _, _, h1, bT, nT, t4, d4, by simpa using zT, by simp [zT]⟩⟩ (fun b o hb hnf => ⟨o.slots, kp b o (ne b o hb hnf) hb⟩) fun b o hb => (Classical.em (b = T)).elim (fun z => by subst z; exact ⟨_, t4⟩) fun z => ⟨o, kp b o z hb⟩
/-- leaving a frame -/
theorem leave_fly (hfr : A.frames = some (env :: outer)) (hf : env.frame = some L) (F : FlyX B (env :: outer) e cls dx s.heap)
    (hQ : ∀ h', FlyX B outer e cls dx h' → s.heap.UpToSlots h' → Th s.heap h' → Q () { s with heap := h' }) : wpAny M A (leaving env (.ref e)) Q E s := by
  unfold leaving
  exact wpAny_bind (note_fly hfr hf F fun h' F' U W => hQ h' ⟨F'.stays, F'.new, F'.frames.2.2, F'.ex⟩ U W)
end
/-! ### how an exception lies behind a call -/
/-- an exception flies in the body of X: the state as X has it, B all that stood when it was raised but the frames -/
structure FlyIn (X : Cx) (pins : List (Addr × Obj)) (σ : St) (H : Hp) (B : Heap) (e : Addr) (cls : Value) (dx : Option Addr) (s : Shared) : Prop where
  inv : Inv X pins σ H s
  hok : HOk X.prog X.w H B
  fly : FlyX B X.stack e cls dx s.heap
  kb : ∀ b o, X.s₀.heap.get? b = some o → X.H₀ b = none → b ∉ X.fs → b ∉ X.ex → B.get? b = some o
  en : ∀ o, X.s₀.heap.get? e = some o → e ∈ X.ex
def CXR (P : Program) (w : World) : CXT := fun outer H s E e s' => ∃ (ea : Addr) (cls : Value) (dx : Option Addr) (H' : Hp) (B : Heap), e = .ref ea ∧ s'.os = s.os ∧ AllBare s'.gens ∧ HOk P w H' B ∧ FlyX B outer ea cls dx s'.heap ∧
  Un (frs outer) [] H H' s.heap s'.heap ∧ (∀ b o, s.heap.get? b = some o → H b = none → b ∉ frs outer → B.get? b = some o) ∧ (∀ o, s.heap.get? ea ≠ some o) ∧ E cls dx H'
section
variable {X : Cx} {pins : List (Addr × Obj)} {σ : St} {H : Hp} {s s' : Shared}
theorem not_frame (I : Inv X pins σ H s) {b : Addr} {o : Obj} (e : X.s₀.heap.get? b = some o) (h : b ∉ X.fs) : b ∉ frs X.stack := fun hm => by
  rcases List.mem_cons.mp (I.stkSub b hm) with z | z
  · exact absurd (Nat.lt_of_lt_of_le (Heap.lt_size e) I.ok.above) (by rw [z]; exact Nat.lt_irrefl _)
  · exact h z
/-- out of a callee -/
theorem FlyIn.of_call {E : XK} {e : Value} (I : Inv X pins σ H s) (h : CXR X.prog X.w X.stack H s E e s') : ∃ (ea : Addr) (cls : Value) (dx : Option Addr) (H' : Hp) (B : Heap), e = .ref ea ∧ FlyIn X pins σ H' B ea cls dx s' ∧ E cls dx H' := by
  obtain ⟨ea, cls, dx, H', B, rfl, os, bare, hok, fly, un, kb, en, hE⟩ := h
  refine ⟨ea, cls, dx, H', B, rfl, ⟨I.call' os un (hok.kept fly.stays) bare (fun b hb => absurd hb (by simp)), hok, fly, fun b o e n h1 h2 => ?_, fun o e => ?_⟩, hE⟩
  · have k := I.base.keep b o e n h1 h2
    exact kb b o k (I.base.free b o e n h2) (not_frame I e h1)
  · apply Classical.byContradiction
    intro hx
    obtain ⟨o', k⟩ := I.base.there ea o e hx
    exact en o' k
/-- raised here -/
theorem FlyIn.of_raise {e : Addr} {cls : Value} {args : List Value} {h' : Heap} {t' : Nat} (I : Inv X pins σ H s) (m : Heap.MadeExcOf s.heap h' e cls args) : FlyIn X pins σ H (PySem.W.hideAll s.heap (frs X.stack)) e cls none { s with heap := h', toks := t' } := by
  have nofr : ∀ b o, H b = some o → b ∉ frs X.stack := fun b o hb hm => by rw [I.stkFree b hm] at hb; cases hb
  refine ⟨I.kept m.keeps, fun a o ha => ?_, ⟨fun b o hb => m.keeps _ _ (PySem.W.of_hideAll _ hb), ?_, ?_, ?_⟩, fun b o e n h1 h2 => ?_, fun o hz => ?_⟩
  · refine (I.hok a o ha).stay (fun b u hb hu => PySem.W.hideAll_get _ hu ?_) (fun _ q => q) fun _ _ q => q
    rcases hb with rfl | hb
    · exact nofr _ _ ha
    · exact nofr _ _ hb
  · cases q : (PySem.W.hideAll s.heap (frs X.stack)).get? e with
    | none => rfl
    | some o =>
      have := PySem.W.of_hideAll _ q
      rw [m.new] at this
      cases this
  · refine Heap.FunFrames.of_keeps (fun b o hb _ => ⟨o, m.keeps b o hb, rfl⟩) (PySem.W.funFrames_hide I.stack fun env he a hf => ?_)
    exact List.mem_filterMap.mpr ⟨env, he, hf⟩
  · obtain ⟨t, h1, _, _⟩ := m.there
    exact ⟨_, _, h1, rfl, rfl, rfl, by simp, .inl rfl⟩
  · exact PySem.W.hideAll_get _ (I.base.keep b o e n h1 h2) (not_frame I e h1)
  · apply Classical.byContradiction
    intro hx
    obtain ⟨o', k⟩ := I.base.there _ o hz hx
    rw [m.new] at k
    cases k
/-- what is wanted of an exception that leaves this body -/
def XOut (X : Cx) (E : XK) : Prop := ∀ (pins : List (Addr × Obj)) (σ : St) (H : Hp) (B : Heap) (e : Addr) (cls : Value) (dx : Option Addr) (s : Shared), FlyIn X pins σ H B e cls dx s → E cls dx H → X.xe (.ref e) s
theorem passR {E : XK} (hx : XOut X E) : Passes (CXR X.prog X.w) X E := fun pins σ H s e s' I h => by
  obtain ⟨ea, cls, dx, H', B, rfl, F, hE⟩ := FlyIn.of_call I h
  exact hx _ _ _ _ _ _ _ _ F hE
theorem passR0 {P : Program} {w : World} : Passes (CXR P w) X E0 := fun _ _ _ _ _ _ _ h => by
  obtain ⟨_, _, _, _, _, _, _, _, _, _, _, _, _, h⟩ := h
  exact (show False from h).elim
end
/-- a def's body: the exception leaves its frame -/
theorem xout {P : Program} {w : World} {K : PySem.W.Frag} {mg : Str → Option Value} {base : Heap} {N : List Str} {qual : Str} {scope : Scope} {f : Addr} {cd : Value} {A : Around} {outer : List Env} {s : Shared} {H : Hp} {E : XK} :
    XOut (cxOf (CXR P w) P w K mg base N qual scope f cd A outer s H E) E := fun pins σ H' B e cls dx s' F hE => by
  have I := F.inv
  refine leave_fly (outer := outer) I.ok.frames (rfl : (envOfC qual scope s.heap.objs.size f cd).frame = some s.heap.objs.size) F.fly fun h' F' U W => ?_
  have kb : ∀ b o, s.heap.get? b = some o → H b = none → b ∉ frs outer → B.get? b = some o := fun b o e n h1 => F.kb b o e n h1 (by exact List.not_mem_nil)
  refine ⟨e, cls, dx, H', B, rfl, I.os, I.bare, F.hok, F', ?_, kb, fun o z => absurd (F.en o z) (by exact List.not_mem_nil), hE⟩
  have un : Un (frs outer) [] H H' s.heap s'.heap := I.base
  refine ⟨fun b o e n h1 _ => F'.stays _ _ (kb b o e n h1), fun b o e n h1 h2 => ?_, un.free, fun b o e h2 => ?_, un.tups, un.frzs, un.tbls⟩
  · obtain ⟨sl, k⟩ := un.slot b o e n h1 h2
    obtain ⟨_, o2, ho2, hd⟩ := I.ok.funs.mem h1
    have : o2 = o := Option.some.inj (ho2.symm.trans e)
    subst this
    obtain ⟨sl', k'⟩ := U b _ k hd
    exact ⟨sl', k'⟩
  · obtain ⟨o', k⟩ := un.there b o e h2
    exact W b o' k
/-! ### raise C(..), C a class without __init__ -/
section
variable {X : Cx} {x : Str} {C : Addr} {bm : List Value} {B newId initId : String} {np cpos pos : Pos} {e₀ : Expr} {rest : List Expr} {t : TA} {E : XK}
def qRaise (C : Addr) (E : XK) (t : TA) : TS := fun _ σ H => t σ H fun vs H1 => vs.length ≤ sizeLine ∧ E (.ref C) none H1
theorem psRaise (O : OwnCls x C bm newId X.mg X.base) (FB : ExcBaseFacts B newId initId bm) (hc : X.calm = true) (hout : XOut X E) (ha : PA X (e₀ :: rest) t) (hg : Gl X x := by rfl) (hd : (x == ("__debug__" : Str)) = false := by decide)
    (he : starEach (e₀ :: rest) X.env = (false, eval e₀ X.env) :: starEach rest X.env := by rfl) (hpl : (backTo cpos (starEach rest X.env)).any (·.1) = false := by rfl) :
    PS X (.Raise (some (.Call (.Name x np) (e₀ :: rest) [] cpos)) none pos) (qRaise C E t) := by
  intro pins s σ H D I h
  obtain ⟨tl, N, nm, q, bs, hdct, sn, sub, ab, col, dd, k0, k1, k2, k3, k5, mN, hC, hN, hni, T⟩ := O.obj
  refine wpAny_Raise_call_subT (C := C) (nm := nm) (q := q) (N := N) (bs := bs) (bm := tl) (hdct := hdct) (sn := sn) (sub := sub) (ab := ab) (col := col) (dd := dd) (k0 := k0) (k1 := k1) (k2 := k2) (k3 := k3) (k5 := k5) FB (mN := mN)
    (T.hasType FB.hasBase) (I.ok.hd hc) (by rw [he]; show (false || (backTo cpos (starEach rest X.env)).any (·.1)) = false; rw [hpl]; rfl) hni (ld_glob I hg O.bound ⟨rfl, ?_⟩ hd)
  have hA := ha cpos pins s σ H _ I h
  rw [he] at hA ⊢
  refine Calls.evalArgs_plain (thn hA fun us s2 ⟨vs, H1, I1, r, hz, q⟩ => ⟨rfl, by rw [← r.length]; exact hz, I1.bk _ _ hC, hN.keeps I1.bk, T.keeps I1.bk, fun h' e m => ?_⟩)
  exact hout _ _ _ _ _ _ _ _ (FlyIn.of_raise (t' := s2.toks) I1 m) q
end
/-! ### a def that may raise -/
section
variable {P : Program} {w : World} {K : PySem.W.Frag} {mg : Str → Option Value} {base : Heap}
theorem Fun.okR {x qual : Str} {st : Stmt} {f : Addr} {fd : FuncData} {N ps : List Str} {k : Nat} {sp : Sp} (F : Fun K x qual st f fd) (S : FnScope N ps (defScope st)) (len : ∀ vs H Q E, sp vs H Q E → vs.length = ps.length)
    (hbody : ∀ (cdv : Value) (A : Around) (outer : List Env) (s : Shared) (H : Hp) (vs : List V) (Q : VK) (E : XK), Room k (A.deeper (envOfC qual (defScope st) s.heap.objs.size f cdv)) → XOut (cxOf (CXR P w) P w K mg base N qual (defScope st) f cdv A outer s H E) E → sp vs H Q E →
      ∃ t, PSs (cxOf (CXR P w) P w K mg base N qual (defScope st) f cdv A outer s H E) (defBody st) t ∧ t { nx := fun _ H' => Q .non H', rt := Q } (start N vs) H) : FnOk P w K mg base (CXR P w) (k + 1) f fd ps sp := by
  obtain ⟨oc, od, kV, doc, pm, an, cdv, ct, osl, rfl, lk, hcd⟩ := F.ex
  refine fn_of lk hcd S len fun A outer s H vs Q E hr hsp => ?_
  exact hbody cdv A outer s H vs Q E hr xout hsp
end
end L2

set_option Elab.async false
set_option linter.all false
set_option maxRecDepth 100000
set_option maxHeartbeats 4000000
namespace L2
open PySem PySem.Spec PyProof.Rows
/-! ### isinstance of a caught exception -/
/-- what the written part knows of an exception's class -/
structure ExcK (K : PySem.W.Frag) (D : Addr) : Prop where
  h1 : PySem.W.findIn K (.ref D) "__getattribute__" = some (some (.builtin "BaseException.__getattribute__"))
  h2 : PySem.W.findIn K (.ref D) "__getattr__" = some none
  h3 : PySem.W.findIn K (.ref D) "__class__" = some (some (.builtin "object.__class__"))
  h4 : PySem.W.subIn K (.ref D) (.type "BaseException") = some true
  h5 : PySem.W.mroIn K D (.type "object") = some true
/-- a caught exception -/
def ExcIs (e : Addr) (cls : Value) (dx : Option Addr) (h : Heap) : Prop := ∃ (oe : Obj) (vs : Array Value), h.get? e = some oe ∧ oe.cls = cls ∧ oe.dict = dx ∧ oe.data = .fields vs
section
open PySem.W PySem.Calls
theorem exc_class {prog : Program} {w : World} {A : Around} {E : Value → Shared → Prop} {K : Frag} {D e : Addr} {h : Heap} {g d t os} {Q : Option Value → Shared → Prop} (X : K.In h) (x : ExcIs e (.ref D) none h) (k : ExcK K D)
    (hq : Q (some (.ref D)) ⟨h, g, d, t + 1, os⟩) : wpAny (model prog w) A (getAttr? (.ref e) "__class__") Q E ⟨h, g, d, t, os⟩ := by
  obtain ⟨oe, vs, he, hc, hdx, hd⟩ := x
  obtain ⟨h1, h2, h3, h4, h5⟩ := k
  have L0 : Looks (model prog w) h (typeOf (.ref e)) (.ref D) := hc ▸ (Looks.ld he).andThen .now
  have L1 := looks_findIn (M := model prog w) X h1
  have L2 := looks_findIn (M := model prog w) X h2
  have L3 := looks_findIn (M := model prog w) X h3
  have hx : (onTheHeap (Value.ref D) && Value.builtin "BaseException.__getattribute__" == Value.builtin "object.__getattribute__") = false := by
    have z : (Value.builtin "BaseException.__getattribute__" == Value.builtin "object.__getattribute__") = false := by decide +kernel
    rw [z]; rfl
  have I : InstAt h e oe D none := ⟨he, hc, by unfold notCls; rw [hd], by rw [hdx]; trivial⟩
  have L4 : Looks (model prog w) h (isInstance (.ref e) (.type "BaseException")) true := L0.andThen (looks_subIn X h4)
  have FB := PySem.F.attrBase_ValueError
  have f3 := FB.ga.bind (.ref e)
  have kd : builtinKind "BaseException.__getattribute__" = some .slot := by decide +kernel
  have sid : splitId "BaseException.__getattribute__" = some ("BaseException", "__getattribute__") := by decide +kernel
  have aok := PySem.F.args_bexc_ga (.ref e) (.str "__class__" t)
  have f5 := KF.type_class
  have f6 := PySem.F.slot_gs_get.lookup
  have f7 := PySem.F.slot_gs_set.lookup
  unfold getAttr? getAttrBy? getAttrBy
  refine wpAny_bind (wpAny_mkText (wpAny_bind (wpAny_attempt (wpAny_holding (wpAny_bind (L0.at (wpAny_bind (L1.at ?_))))))))
  dsimp only
  rw [if_neg (by rw [hx]; decide)]
  unfold getAttrByItsOwn hookBefore
  repeat (any_goals (first | assumption | with_reducible refine L0.at ?_ | with_reducible refine L1.at ?_ | with_reducible refine L2.at ?_ | with_reducible refine L3.at ?_ | wp_step))
  refine codeAny_call_builtin FB.ga.plain PySem.F.entry_bexc_ga ?_
  simp only [checkBuiltinCall, kd, sid]
  refine wpAny_bind (L4.at ?_)
  repeat (any_goals (first | assumption | with_reducible refine L0.at ?_ | with_reducible refine L1.at ?_ | with_reducible refine L2.at ?_ | with_reducible refine L3.at ?_ | wp_step))
  refine class_get (ox := oe) (od := none) X I h5 ?_
  repeat (any_goals (first | assumption | wp_step))
theorem kitx_exc {K : Frag} {e D : Addr} (k : ExcK K D) (hcl : (clsIn K D).isSome = true) : KitX K (.ref e) (.ref D) (ExcIs e (.ref D) none) where
  ty := fun M h _ p => by
    obtain ⟨oe, vs, he, hc, _⟩ := p
    exact hc ▸ (Looks.ld he).andThen .now
  it := fun M h X p => by
    obtain ⟨cd, hcd⟩ := Option.isSome_iff_exists.mp hcl
    unfold clsIn at hcd
    split at hcd
    · rename_i ho
      intro A' Q' E' s' kk q
      unfold isType loadHead
      exact wpAny_bind (wpAny_loadPart (kk _ _ (X _ _ ho)) (wpAny_pure q))
    · cases hcd
  ne := fun h tp dd its n sl X htp => by
    refine Bool.eq_false_iff.mpr fun q => ?_
    have z : D = tp := Value.ref.inj (beq_iff_eq.mp q)
    subst z
    obtain ⟨cd, hcd⟩ := Option.isSome_iff_exists.mp hcl
    unfold clsIn at hcd
    split at hcd
    · rename_i ho
      cases (X _ _ ho).symm.trans htp
    · cases hcd
  ca := fun {prog w A E Q s} X p q => by
    obtain ⟨hh, g, d, t, os⟩ := s
    exact exc_class X p k q
end
/-! ### isinstance, of anything and of a caught exception -/
abbrev excO (ea : Addr) (cls : Value) (dx : Option Addr) : HO := .ext (ExcIs ea cls dx)
section
variable {X : Cx} {K : PySem.W.Frag} {H : Hp} {Q : VK}
@[irreducible] def rIsiX (K : PySem.W.Frag) (x c : V) (H : Hp) (Q : VK) : Prop := rIsiA K x c H Q ∨ ∃ (ea D : Addr) (b : Bool), x = .ref ea ∧ H ea = some (excO ea (.ref D) none) ∧ ExcK K D ∧ (PySem.W.clsIn K D).isSome = true ∧ (∀ cv, RelV c cv → PySem.W.kitOne K (.ref D) cv = some b) ∧ Q (.bl b) H
def rIsiMX (K : PySem.W.Frag) : List V → Hp → VK → Prop := fun xs H Q => match xs with
  | [x, c] => rIsiX K x c H Q
  | _ => False
theorem cIsiX (hK : X.K = K) : CallR X (.builtin "isinstance") (rIsiMX K) := by
  subst hK
  intro pins s σ H xs us Q I r h
  unfold rIsiMX at h
  split at h
  · unfold rIsiX at h
    rcases h with h | ⟨ea, D, b, rfl, h1, h2, h3, h4, h5⟩
    · exact cIsi pins s σ H _ us Q I r h
    · obtain ⟨u, w, rfl, r1, r2⟩ := vals2 r
      cases r1
      obtain ⟨p, _⟩ := I.hok ea _ h1
      exact PySem.W.kia_one (kitx_exc h2 h3) I.kIn p (h4 _ r2) (fun z => nomatch z) fun tk => ⟨.bl b, H, I.tok _, rfl, h5⟩
  · exact h.elim
theorem isiE_rd {ea D C : Addr} {b : Bool} (h1 : H ea = some (excO ea (.ref D) none)) (h2 : ExcK K D) (h3 : (PySem.W.clsIn K D).isSome = true) (e : PySem.W.kitOne K (.ref D) (.ref C) = some b) (q : Q (.bl b) H) : rIsiX K (.ref ea) (.ref C) H Q := by
  unfold rIsiX; exact .inr ⟨ea, D, b, rfl, h1, h2, h3, fun cv r => by cases r; exact e, q⟩
theorem isiET_rd {ea D : Addr} {n : String} {b : Bool} (h1 : H ea = some (excO ea (.ref D) none)) (h2 : ExcK K D) (h3 : (PySem.W.clsIn K D).isSome = true) (e : PySem.W.kitOne K (.ref D) (.type n) = some b) (q : Q (.bl b) H) : rIsiX K (.ref ea) (.ty n) H Q := by
  unfold rIsiX; exact .inr ⟨ea, D, b, rfl, h1, h2, h3, fun cv r => by cases r; exact e, q⟩
theorem bt_ValueError : bootBuiltins "ValueError" = some (.type "ValueError") := by decide +kernel
end
/-! ### try: f(..) except C as n: y = n -/
section
variable {X : Cx} {pins : List (Addr × Obj)} {σ : St} {H : Hp} {s : Shared}
/-- what lies behind an exception of a statement that has stored nothing ahead of it -/
def ExcP (X : Cx) (pins : List (Addr × Obj)) (σ : St) (EX : XK) (e : Value) (s' : Shared) : Prop := ∃ (H' : Hp) (B : Heap) (ea : Addr) (cls : Value) (dx : Option Addr), e = .ref ea ∧ FlyIn X pins σ H' B ea cls dx s' ∧ (∀ p ∈ X.pn ++ pins, B.get? p.1 = some p.2) ∧ EX cls dx H'
def PSX (X : Cx) (st : Stmt) (t : XK → TS) : Prop := ∀ (pins : List (Addr × Obj)) (s : Shared) (σ : St) (H : Hp) (D : Ends) (EX : XK), Inv X pins σ H s → t EX D σ H → wpAny (model X.prog X.w) X.A (exec st X.env) (SP X pins D) (ExcP X pins σ EX) s
def PSXs (X : Cx) (l : List Stmt) (t : XK → TS) : Prop := ∀ (pins : List (Addr × Obj)) (s : Shared) (σ : St) (H : Hp) (D : Ends) (EX : XK), Inv X pins σ H s → t EX D σ H → wpAny (model X.prog X.w) X.A (execs l X.env) (SP X pins D) (ExcP X pins σ EX) s
theorem excP_of {EX : XK} {e : Value} {s' : Shared} (I : Inv X pins σ H s) (h : CXR X.prog X.w X.stack H s EX e s') : ExcP X pins σ EX e s' := by
  obtain ⟨ea, cls, dx, H', B, rfl, os, bare, hok, fly, un, k, en, hE⟩ := h
  refine ⟨H', B, ea, cls, dx, rfl, ⟨I.call' os un (hok.kept fly.stays) bare (fun b hb => absurd hb (by simp)), hok, fly, fun b o e n h1 h2 => ?_, fun o e => ?_⟩, fun p hp => ?_, hE⟩
  · exact k b o (I.base.keep b o e n h1 h2) (I.base.free b o e n h2) (not_frame I e h1)
  · apply Classical.byContradiction
    intro hx
    obtain ⟨o', k'⟩ := I.base.there ea o e hx
    exact en o' k'
  · obtain ⟨q1, q2, q3, q4, _⟩ := I.pin p hp
    exact k _ _ q1 q2 fun hm => (List.mem_cons.mp (I.stkSub _ hm)).elim q3 q4
/-- the state moves on while the exception flies -/
theorem FlyIn.move {B : Heap} {e : Addr} {cls : Value} {dx : Option Addr} {h' : Heap} (F : FlyIn X pins σ H B e cls dx s) (hp : ∀ p ∈ X.pn ++ pins, B.get? p.1 = some p.2) (F' : FlyX B X.stack e cls dx h') (U : s.heap.UpToSlots h') (W : Th s.heap h') :
    FlyIn X pins σ H B e cls dx { s with heap := h' } := by
  have I := F.inv
  have cell : ∀ {c : Addr} {v : Option Value}, s.heap.IsCell c v → h'.IsCell c v := fun ⟨o, ho, hd⟩ => by
    obtain ⟨sl, z⟩ := U _ o ho fun vs q => by rw [hd] at q; cases q
    exact ⟨_, z, hd⟩
  refine ⟨⟨I.ok, I.os, I.bare, ⟨fun b o e n h1 h2 => F'.stays _ _ (F.kb b o e n h1 h2), fun b o e n h1 h2 => ?_, I.base.free, fun b o e h2 => ?_, I.base.tups, I.base.frzs, I.base.tbls⟩, ?_, fun x c hc => ?_, I.free, I.freeC, fun p hpp => ?_, F.hok.kept F'.stays, I.len⟩, F.hok, F', F.kb, F.en⟩
  · obtain ⟨sl, k⟩ := I.base.slot b o e n h1 h2
    obtain ⟨_, o2, ho2, hd⟩ := I.ok.funs.mem h1
    have : o2 = o := Option.some.inj (ho2.symm.trans e)
    subst this
    obtain ⟨sl', k'⟩ := U b _ k hd
    exact ⟨sl', k'⟩
  · obtain ⟨o', k⟩ := I.base.there b o e h2
    exact W b o' k
  · obtain ⟨m, hn, hl⟩ := I.loc
    refine ⟨m, U.ns hn, fun i x v h1 h2 h3 => ?_⟩
    obtain ⟨u, r, q⟩ := hl i x v h1 h2 h3
    refine ⟨u, r, ?_⟩
    rcases q with q | ⟨k, c, e, z⟩
    · exact .inl q
    · exact .inr ⟨k, c, e, cell z⟩
  · obtain ⟨v, z⟩ := I.cell x c hc
    exact ⟨v, cell z⟩
  · obtain ⟨_, q2, q3, q4, q5⟩ := I.pin p hpp
    exact ⟨F'.stays _ _ (hp p hpp), q2, q3, q4, q5⟩
/-- a call by itself, its exception kept -/
theorem callX {k j : Nat} {x : Str} {ps : List Str} {sp : Sp} {p pos : Pos} {e : Expr} {es : List Expr} {t : TA} (F : Def X.prog X.w X.K X.mg X.base (CXR X.prog X.w) k x ps sp) (hr : Room j X.A) (ha : PA X.nox (e :: es) t) (hk : k ≤ j := by decide) (hg : Gl X x := by rfl)
    (hdb : (x == ("__debug__" : Str)) = false := by decide) (he : starEach (e :: es) X.env = (false, eval e X.env) :: starEach es X.env := by rfl) (hpl : (backTo pos (starEach es X.env)).any (·.1) = false := by rfl)
    {Q : VK} {EX : XK} (I : Inv X pins σ H s) (h : t σ H fun vs H1 => sp vs H1 Q EX) : wpAny (model X.prog X.w) X.A (eval (.Call (.Name x p) (e :: es) [] pos) X.env) (EP X pins σ Q) (ExcP X pins σ EX) s := by
  obtain ⟨f, fd, F1, F2, F3, F4⟩ := F.ex
  refine wpAny_Call_Name_kw (ld_glob I hg F2 ?_ hdb)
  have hA := ha pos pins s σ H _ (I.wish _) h
  refine PySem.W.callWith_K (h₀ := X.base) I.ok.mod.kin F3 (wpAny_mono hA (fun us s1 h1 => ?_) fun _ _ z => z.elim) he hpl
  obtain ⟨vs, H1, I1, r, q⟩ := h1
  have I1 : Inv X pins σ H1 s1 := I1.unwish
  refine ⟨I1.kIn, ?_⟩
  have hl : us.length = ps.length := by rw [← r.length]; exact F1.len _ _ _ _ q
  have hb := F4 s1 us I1.kIn (by rw [List.append_nil]; exact hl)
  rw [List.append_nil] at hb
  refine wpAny_call (codeAny_mono (F1.run X.A X.stack s1 H1 ⟨us, []⟩ us vs Q EX (hr.mono hk) I1.env0 hb r q) fun r s' hq => ?_)
  cases r with
  | error e => exact excP_of I1 hq
  | ok fl =>
    cases fl with
    | ret u => exact I1.after hq
    | next => exact False.elim hq
    | brk => exact False.elim hq
    | cont => exact False.elim hq
def qxCall (sp : Sp) (t : TA) : XK → TS := fun EX D σ H => t σ H fun vs H1 => sp vs H1 (fun _ H2 => D.nx σ H2) EX
theorem psxCall {k j : Nat} {x : Str} {ps : List Str} {sp : Sp} {p pos spos : Pos} {e : Expr} {es : List Expr} {t : TA} (F : Def X.prog X.w X.K X.mg X.base (CXR X.prog X.w) k x ps sp) (hr : Room j X.A) (ha : PA X.nox (e :: es) t) (hk : k ≤ j := by decide) (hg : Gl X x := by rfl)
    (hdb : (x == ("__debug__" : Str)) = false := by decide) (he : starEach (e :: es) X.env = (false, eval e X.env) :: starEach es X.env := by rfl) (hpl : (backTo pos (starEach es X.env)).any (·.1) = false := by rfl)
    (hs : swapsWith (.Call (.Name x p) (e :: es) [] pos) none spos.line X.env = pure false := by rfl) : PSX X (.Expr (.Call (.Name x p) (e :: es) [] pos) spos) (qxCall sp t) := by
  intro pins s σ H D EX I h
  exact wpAny_Expr_any (wpAny_mono (callX F hr ha hk hg hdb he hpl I h) (fun v s1 ⟨x, H1, I1, r1, q1⟩ => ⟨σ, H1, I1, q1⟩) fun _ _ z => z) I.quiet hs
theorem psxOne {st : Stmt} {t : XK → TS} (h : PSX X st t) : PSXs X [st] t := by
  intro pins s σ H D EX I hq
  refine wpAny_execs_cons (wpAny_mono (h pins s σ H D EX I hq) (fun f s1 q => ?_) fun _ _ z => z)
  cases f with
  | next => exact wpAny_execs_nil q
  | brk => exact q
  | cont => exact q
  | ret u => exact q
/-! the exception is caught: it is tracked from here on -/
theorem ObjOk.ex {P : Program} {w : World} {H : Hp} {h : Heap} {a : Addr} {o : HO} (x : ObjOk P w H h a o) : ∃ u, h.get? a = some u := by
  cases o with
  | lst xs => obtain ⟨_, _, _, _, e⟩ := x; exact ⟨_, e⟩
  | tup xs => obtain ⟨_, _, _, ob, e, _⟩ := x; exact ⟨ob, e⟩
  | dK kvs => obtain ⟨_, _, _, _, ob, _, _, e, _⟩ := x; exact ⟨ob, e⟩
  | dT kvs => obtain ⟨_, _, _, _, ob, _, _, e, _⟩ := x; exact ⟨ob, e⟩
  | set S n => obtain ⟨ob, _, _, _, e, _⟩ := x; exact ⟨ob, e⟩
  | ins C dx fs => obtain ⟨_, _, _, e, _⟩ := x; exact ⟨_, e⟩
  | own y => exact x
  | xd fs => obtain ⟨_, ⟨ob, _, _, e, _⟩, _⟩ := x; exact ⟨ob, e⟩
  | rng lo hi => obtain ⟨_, _, _, e⟩ := x; exact ⟨_, e⟩
  | frz ob u => obtain ⟨e, _⟩ := x; exact ⟨_, e⟩
  | tbl ps => exact ⟨_, (show h.get? a = some _ from x)⟩
  | met f y => exact ⟨_, (show h.get? a = some _ from x)⟩
  | ext φ => obtain ⟨_, e, _⟩ := x; exact e
theorem FlyIn.track {B : Heap} {ea : Addr} {cls : Value} {dx : Option Addr} (F : FlyIn X pins σ H B ea cls dx s) (hp : ∀ p ∈ X.pn ++ pins, B.get? p.1 = some p.2) (hex : X.ex = []) :
    H ea = none ∧ Inv X pins σ (upd H ea (excO ea cls dx)) s := by
  have I := F.inv
  obtain ⟨oe, vs, he, hc, hdx, hd, _⟩ := F.fly.ex
  have hn : H ea = none := by
    cases q : H ea with
    | none => rfl
    | some o =>
      obtain ⟨u, z⟩ := ObjOk.ex (F.hok ea o q)
      rw [F.fly.new] at z
      cases z
  have nl : ∀ {b : Addr} {o : Obj}, s.heap.get? b = some o → (∀ vs, o.data ≠ .fields vs) → b ≠ ea := fun hb hnf z => by
    rw [z, he] at hb
    cases hb
    exact hnf vs hd
  have n0 : ∀ {b : Addr} {o : Obj}, X.s₀.heap.get? b = some o → b ≠ ea := fun hb z => by
    have := F.en _ (z ▸ hb)
    rw [hex] at this
    cases this
  refine ⟨hn, I.ok, I.os, I.bare, ⟨I.base.keep, I.base.slot, fun b o e n h1 => ?_, I.base.there, fun b xs q => ?_, fun b o u q => ?_, fun b ps q => ?_⟩, I.loc, I.cell, ?_, fun x c hcl => ?_, fun p hpp => ?_, fun b o q => ?_, I.len⟩
  · rw [upd_ne (n0 e)]; exact I.base.free b o e n h1
  · have z := I.base.tups b xs q
    rw [upd_ne (ne_of_none z hn)]; exact z
  · have z := I.base.frzs b o u q
    rw [upd_ne (ne_of_none z hn)]; exact z
  · obtain ⟨more, z⟩ := I.base.tbls b ps q
    exact ⟨more, by rw [upd_ne (ne_of_none z hn)]; exact z⟩
  · obtain ⟨m, ⟨o, es, ep, ho, hdd, _⟩, _⟩ := I.loc
    rw [upd_ne (nl ho fun vs q => by rw [hdd] at q; cases q)]; exact I.free
  · obtain ⟨v, o, ho, hdd⟩ := I.cell x c hcl
    rw [upd_ne (nl ho fun vs q => by rw [hdd] at q; cases q)]; exact I.freeC x c hcl
  · obtain ⟨q1, q2, q3, q4, q5⟩ := I.pin p hpp
    refine ⟨q1, ?_, q3, q4, q5⟩
    rw [upd_ne fun z => ?_]
    · exact q2
    · have := hp p hpp
      rw [z, F.fly.new] at this
      cases this
  · by_cases hb : b = ea
    · subst hb
      rw [upd_same] at q
      cases q
      refine ⟨⟨oe, vs, he, hc, hdx, hd⟩, ⟨oe, he⟩, fun h1 h2 x k => ?_⟩
      obtain ⟨o1, v1, e1, r⟩ := x
      exact ⟨o1, v1, k _ e1, r⟩
    · rw [upd_ne hb] at q
      refine (I.hok b o q).stay (fun _ _ _ z => z) (fun c z => ?_) fun c xs z => ?_
      · rw [upd_ne (ne_of_none z hn)]; exact z
      · rw [upd_ne (ne_of_none z hn)]; exact z
/-- a name is unbound -/
theorem unbind_ok {M : Model} {A : Around} {E : Value → Shared → Prop} {i : Nat} {n : Str} {v : V} {Q : Unit → Shared → Prop} (I : Inv X pins σ H s) (hN : X.N.Nodup) (hi : X.N[i]? = some n) (hl : X.env.kindOf n = some .local) (hv : σ[i]? = some (some v))
    (h : ∀ s', Inv X pins (σ.set i none) H s' → Q () s') : wpAny M A (unbindName X.env n) Q E s := by
  obtain ⟨m, hn, hlk⟩ := id I.loc
  have hcls : (X.env.scope.kind == .class || (X.env.scope.kind == .module && X.env.locals != X.env.globals)) = false := by rw [I.ok.kind]; rfl
  obtain ⟨u, _, q⟩ := hlk i n v hi hv (.inl hl)
  have hm : m n = some u := by
    rcases q with q | ⟨k, _⟩
    · exact q.2
    · rw [hl] at k
      rcases k with k | k <;> cases k
  refine wpAny_unbindName_local hl hn hm hcls fun h' u' hn' hs => h _ ?_
  obtain ⟨oL, _, _, hoL, _⟩ := id hn
  have below : ∀ {b : Addr} {o : Obj}, X.s₀.heap.get? b = some o → b ≠ X.env.locals := fun e => Nat.ne_of_lt (Nat.lt_of_lt_of_le (Heap.lt_size e) I.ok.above)
  refine ⟨I.ok, I.os, I.bare, ⟨fun b o e n hb hx => (hs.2 b (below e)).trans (I.base.keep b o e n hb hx), fun b o e n hb hx => ?_, I.base.free, fun b o e hx => ?_, I.base.tups, I.base.frzs, I.base.tbls⟩, ⟨_, hn', fun j y v' e1 e2 e3 => ?_⟩, fun y c e => ?_, I.free, I.freeC, fun p hp => ?_, fun b ob e => ?_, by rw [List.length_set]; exact I.len⟩
  · obtain ⟨sl, z⟩ := I.base.slot b o e n hb hx
    exact ⟨sl, (hs.2 b (below e)).trans z⟩
  · obtain ⟨o', z⟩ := I.base.there b o e hx
    exact ⟨o', (hs.2 b (below e)).trans z⟩
  · by_cases hj : j = i
    · subst hj
      rw [List.getElem?_set_self (by rw [I.len]; exact (List.getElem?_eq_some_iff.mp hi).1)] at e2
      cases e2
    · rw [List.getElem?_set_ne (Ne.symm hj)] at e2
      obtain ⟨w', r', q⟩ := hlk j y v' e1 e2 e3
      refine ⟨w', r', ?_⟩
      rcases q with ⟨k, z⟩ | ⟨k, c, z, zz⟩
      · refine .inl ⟨k, ?_⟩
        have : y ≠ n := fun z => hj (nodup_ix hN e1 (z ▸ hi))
        show (if y = n then u' else m y) = _
        rw [if_neg this]; exact z
      · exact .inr ⟨k, c, z, zz.sameBut hs (I.cne y c z)⟩
  · obtain ⟨w', z⟩ := I.cell y c e
    exact ⟨w', z.sameBut hs (I.cne y c e)⟩
  · obtain ⟨e, n, ne, nf, d⟩ := I.pin p hp
    exact ⟨(hs.2 p.1 ne).trans e, n, ne, nf, d⟩
  · refine (I.hok b ob e).stay (fun c w' hc q => (hs.2 c ?_).trans q) (fun _ q => q) fun _ _ q => q
    rintro rfl
    rcases hc with z | hc
    · rw [← z, I.free] at e; cases e
    · rw [I.free] at hc; cases hc
/-- within an except suite -/
def marked (X : Cx) (e : Value) : Cx := { X with A := X.A.mark (some e), calm := false, xe := fun _ _ => False }
theorem Inv.mark (I : Inv X pins σ H s) (e : Value) : Inv (marked X e) pins σ H s :=
  ⟨⟨I.ok.mod, I.ok.kind, I.ok.glob, I.ok.blt, I.ok.above, I.ok.inj, I.ok.has, I.ok.cab, (fun z => absurd (show false = true from z) Bool.false_ne_true), I.ok.frames, I.ok.stk, I.ok.exf, I.ok.bs, I.ok.bsz, I.ok.noex, I.ok.exfs, I.ok.funs, I.ok.frf⟩, I.os, I.bare, I.base, I.loc, I.cell, I.free, I.freeC, I.pin, I.hok, I.len⟩
theorem Inv.unmark {e : Value} (I0 : Inv X pins σ H s) {σ' : St} {H' : Hp} {s' : Shared} (I : Inv (marked X e) pins σ' H' s') : Inv X pins σ' H' s' :=
  ⟨I0.ok, I.os, I.bare, I.base, I.loc, I.cell, I.free, I.freeC, I.pin, I.hok, I.len⟩
@[irreducible] def xCatch (K : PySem.W.Frag) (CH : Addr) (D : Ends) (σ : St) (ke ky : Nat) (cls : Value) (dx : Option Addr) (H' : Hp) : Prop := PySem.W.exmOne K cls (.ref CH) = some true ∧
  ∀ ea H'', H' ea = none → Same H' H'' → H'' ea = some (excO ea cls dx) → D.nx ((σ.set ke none).set ky (some (.ref ea))) H''
def qTry (K : PySem.W.Frag) (CH : Addr) (t : XK → TS) (ke ky : Nat) : TS := fun D σ H => t (fun cls dx H' => xCatch K CH D σ ke ky cls dx H') D σ H
theorem psTry {K : PySem.W.Frag} {body : List Stmt} {t : XK → TS} {hx n y : Str} {CH : Addr} {ke ky : Nat} {np p1 p2 p3 hpos pos : Pos} (hK : X.K = K) (hN : X.N.Nodup) (hcl : X.mg hx = some (.ref CH)) (hb : PSXs X body t)
    (hke : X.N[ke]? = some n := by rfl) (hky : X.N[ky]? = some y := by rfl) (hkk : ke ≠ ky := by decide) (hln : X.env.kindOf n = some .local := by rfl) (hly : X.env.kindOf y = some .local := by rfl) (hgl : Gl X hx := by rfl) (hdb : (hx == ("__debug__" : Str)) = false := by decide)
    (hnd : (n == ("__debug__" : Str)) = false := by decide) (hnc : (n == ("__classdict__" : Str)) = false := by decide)
    (hstk : X.stack = X.env :: X.outer := by rfl) (hfr : X.env.frame = some X.env.locals := by rfl) (hex : X.ex = [] := by rfl) (hs : swapsWith (.Name n p2) (some (.Name y p1)) p3.line X.env = pure false := by rfl) :
    PS X (.Try body [.ExceptHandler (some (.Name hx np)) (some n) [.Assign [.Name y p1] (.Name n p2) p3] hpos] [] [] pos) (qTry K CH t ke ky) := by
  subst hK
  intro pins s σ H D I h
  rw [arm_exec_Try]
  refine wpAny_bind (wpAny_standAt (wpAny_tryStmt_except (wpAny_mono (hb pins s σ H D _ I h) (fun f s1 q => ?_) fun e s1 q => ?_)))
  · cases f with
    | next => exact wpAny_execs_nil q
    | brk => exact q
    | cont => exact q
    | ret u => exact q
  · obtain ⟨H1, B, ea, cls, dx, rfl, F, hp, q⟩ := q
    unfold xCatch at q
    obtain ⟨hm, q⟩ := q
    have I1 := F.inv
    refine note_fly (L := X.env.locals) (outer := X.outer) (by rw [← hstk]; exact I1.ok.frames) hfr (by rw [← hstk]; exact F.fly) fun h2 F2 U2 W2 => ?_
    rw [← hstk] at F2
    have F2 := F.move hp F2 U2 W2
    have I2 := F2.inv
    refine wpAny_handleBy_cons (codeAny_handlers_test ?_) (by intro z; cases z)
    refine ld_glob (X := marked X (.ref ea)) (I2.mark _) hgl hcl ?_ hdb
    have LT : PySem.W.Looks (model X.prog X.w) h2 (typeOf (.ref ea)) cls := by
      obtain ⟨oe, vs, he, hc, _⟩ := F2.fly.ex
      exact hc ▸ (PySem.W.Looks.ld he).andThen .now
    refine (PySem.W.exm_one I2.kIn LT hm).here ?_
    refine codeAny_handlers_suite_as ?_
    refine set_fly F2.fly fun h3 F3 U3 W3 => ?_
    have F3 := F2.move hp F3 U3 W3
    obtain ⟨hn, I3⟩ := F3.track hp hex
    have hlσ : ke < σ.length := by rw [I1.len]; exact (List.getElem?_eq_some_iff.mp hke).1
    refine store_ok I3 hN hke (.inl hln) (v := .ref ea) rfl (fun s4 I4 => ?_) (.inr hln)
    have pn : PS (marked X (.ref ea)) (.Assign [.Name y p1] (.Name n p2) p3) (tAsg (qV ke) (gName ky)) := ps_set (X := marked X (.ref ea)) hN hky (.inl hly) (pq (X := marked X (.ref ea)) ke hke (.inl hln) hnd hnc) hs (.inr hly)
    refine wpAny_mono (pss_one pn pins s4 _ _ { nx := fun σ' H' => σ' = (σ.set ke (some (.ref ea))).set ky (some (.ref ea)) ∧ H' = upd H1 ea (excO ea cls dx), rt := fun _ _ => False } (I4.mark (.ref ea)) ?_) (fun f s5 q5 => ?_) fun _ _ z => (show False from z).elim
    · show qV ke (σ.set ke (some (.ref ea))) _ _
      unfold qV
      rw [List.getElem?_set_self hlσ]
      exact ⟨rfl, rfl⟩
    · cases f with
      | next =>
        obtain ⟨σ5, H5, I5, rfl, rfl⟩ := q5
        have I5 := Inv.unmark I1 I5
        refine wpAny_bind (wpAny_bindName (store_ok I5 hN hke (.inl hln) (v := .non) rfl (fun s6 I6 => ?_) (.inr hln)))
        refine wpAny_onRaise (unbind_ok (v := .non) I6 hN hke hln (by rw [List.getElem?_set_self (by rw [List.length_set, List.length_set]; exact hlσ)]) fun s7 I7 => ?_)
        refine ⟨_, _, I7, ?_⟩
        rw [List.set_set, List.set_comm _ _ (Ne.symm hkk), List.set_set]
        exact q ea _ hn (Same.upd hn) upd_same
      | brk => obtain ⟨_, _, _, z⟩ := q5; exact False.elim z
      | cont => obtain ⟨_, _, _, z⟩ := q5; exact False.elim z
      | ret u => obtain ⟨_, _, _, _, _, z⟩ := q5; exact False.elim z
end
end L2

set_option Elab.async false
set_option linter.all false
set_option maxRecDepth 100000
set_option maxHeartbeats 4000000
namespace L2
open PySem PySem.Spec PyProof.Rows
/-! ### what the written part says of the classes -/
section
open PySem.W
theorem own_of_K {K : Frag} {h : Heap} {mg : Str → Option Value} {x : Str} {C : Addr} {bmB : List Value} {newId : String} (X : K.In h) (G : h.Ns mainGlobals mg) (e : nsIn K mainGlobals x = some (some (.ref C))) (q : excIn K C bmB newId = true) : OwnCls x C bmB newId mg h := by
  have bd := mg_of X G e
  unfold excIn at q
  split at q
  case h_2 => cases q
  rename_i dd cd sl ho
  split at q
  case h_2 => cases q
  rename_i C1 bm k0 k1 k2 k3 n k5 hm hs
  simp only [Bool.and_eq_true, beq_iff_eq, Bool.not_eq_true'] at q
  obtain ⟨⟨⟨⟨⟨q1, q2⟩, q3⟩, q4⟩, q5⟩, q6⟩ := q
  have z : sl = #[k0, k1, k2, k3, some (.builtin n), k5] := by
    cases sl with
    | mk l => rw [show l = [k0, k1, k2, k3, some (.builtin n), k5] from hs]
  cases cd with
  | mk nm bs mro ns qn hd sn sub ab col del =>
    have hm : mro = .ref C1 :: bm := hm
    have q3 : del = false := q3
    subst q1 q2 z hm q3
    exact ⟨bd, bm, ns, nm, qn, bs, hd, sn, sub, ab, col, dd, k0, k1, k2, k3, k5, _, X _ _ ho, .of_isNs (isNs_of_in X q5), nsMap_none_of_in X q5 q6, tail_of_in X q4⟩
theorem kitCls_ref {K : Frag} {t : Value} {C : Addr} {cd : ClassData} {b : Bool} (h1 : clsIn K C = some cd) (h2 : typeIn K (.ref C) = some (.type "type")) (h3 : subIn K t (.ref C) = some b) : kitCls K t (.ref C) = some b := by
  unfold kitCls
  dsimp only
  rw [h1, h2, if_pos (by simp)]
  exact h3
theorem kit_ref {K : Frag} {t : Value} {C : Addr} {cd : ClassData} {b : Bool} (h1 : clsIn K C = some cd) (h2 : typeIn K (.ref C) = some (.type "type")) (h3 : subIn K t (.ref C) = some b) (h4 : subIn K t t = some true) : kitOne K t (.ref C) = some b := by
  unfold kitOne
  split
  · rename_i z
    have z : t = .ref C := by simpa using z
    subst z
    rw [h3] at h4
    exact h4.symm
  · exact kitCls_ref h1 h2 h3
theorem kit_none {K : Frag} {C : Addr} {cd : ClassData} {b : Bool} (h1 : clsIn K C = some cd) (h2 : typeIn K (.ref C) = some (.type "type")) (h3 : subIn K (.type "NoneType") (.ref C) = some b) : kitOne K (.type "NoneType") (.ref C) = some b := by
  unfold kitOne
  rw [if_neg (by simp)]
  exact kitCls_ref h1 h2 h3
theorem kit_ValueError {K : Frag} {D : Addr} {b : Bool} (h : subIn K (.ref D) (.type "ValueError") = some b) : kitOne K (.ref D) (.type "ValueError") = some b := by
  unfold kitOne kitCls
  rw [if_neg (by simp)]
  dsimp only
  rw [if_pos (by decide +kernel)]
  exact h
theorem exm_ref {K : Frag} {t : Value} {C : Addr} {cd : ClassData} {b : Bool} (h0 : subIn K (.ref C) (.type "BaseException") = some true) (h1 : clsIn K C = some cd) (h2 : typeIn K (.ref C) = some (.type "type")) (h3 : subIn K t (.ref C) = some b) : exmOne K t (.ref C) = some b := by
  unfold exmOne
  rw [if_pos (by rw [h0]; simp)]
  exact kitCls_ref h1 h2 h3
end
/-- what a caught exception is -/
theorem catch_rd {K : PySem.W.Frag} {CH : Addr} {D : Ends} {σ : St} {ke ky : Nat} {cls : Value} {dx : Option Addr} {H' : Hp} (h1 : PySem.W.exmOne K cls (.ref CH) = some true) (h2 : ∀ ea H'', H' ea = none → Same H' H'' → H'' ea = some (excO ea cls dx) → D.nx ((σ.set ke none).set ky (some (.ref ea))) H'') : xCatch K CH D σ ke ky cls dx H' := by
  unfold xCatch; exact ⟨h1, h2⟩
abbrev bmV : List Value := [.type "ValueError", .type "Exception", .type "BaseException", .type "object"]
abbrev newV : String := "ValueError.__new__"
/-! ### list.index of flat things -/
section
variable {X : Cx} {K : PySem.W.Frag}
@[irreducible] def rIdxA (p : Addr) (x : V) (H : Hp) (Q : VK) : Prop := ∃ (xs : List V) (j : Nat), H p = some (.lst xs) ∧ flatV x = true ∧ xs.all flatV = true ∧ (∃ y, xs[j]? = some y ∧ eqV y x = true) ∧ (∀ m y, m < j → xs[m]? = some y → eqV y x = false) ∧ Q (.int j) H
def rIdxM : Addr → List V → Hp → VK → Prop := fun p vs H Q => match vs with
  | [v] => rIdxA p v H Q
  | _ => False
theorem mIndex : MtA X "list.index" rIdxM := fun pins s σ H p xs us Q I r h => by
  unfold rIdxM at h
  split at h
  · rename_i v
    unfold rIdxA at h
    obtain ⟨ys, j, h1, h2, h3, ⟨y, hy, hit⟩, hno, h4⟩ := h
    obtain ⟨u, rfl, ru⟩ := r.one
    obtain ⟨z, its, n, r', hl, e⟩ := I.lstM h1
    have hj : j < its.toArray.size := by
      have := (List.getElem?_eq_some_iff.mp hy).1
      rw [List.size_toArray]; omega
    have at_ : ∀ (m : Nat) (hm : m < its.toArray.size), ∃ y, ys[m]? = some y ∧ eqU v its.toArray[m] = eqV y v := fun m hm => by
      rw [List.size_toArray] at hm
      obtain ⟨w', e1, q1⟩ := r'.get (List.getElem?_eq_getElem (show m < ys.length by omega))
      refine ⟨_, List.getElem?_eq_getElem (by omega), ?_⟩
      have i1 : its.toArray[m] = w' := by
        have := (List.getElem?_eq_some_iff.mp e1).2
        simpa using this
      rw [i1]
      exact eqU_of q1 (List.all_eq_true.mp h3 _ (List.getElem_mem _))
    have hz : its.length ≤ sizeLine := by omega
    rw [sizeLine_eq] at hz
    refine call_meets F.slot_list_index ⟨_, e, rfl⟩ F.entry_list_index (F.args_list_index_2 _ _) (SeqAt.list_indexAt p its.toArray n none #[] u (eqU v) j hj (by rw [List.size_toArray] at hj; omega) ?_ ?_) ⟨e, fun y hy => mem_eqAt ru h2 r' h3 y (by simpa using hy), ⟨.int _, H, I.tok _, ⟨_, rfl⟩, h4⟩⟩
    · obtain ⟨y', e1, e2⟩ := at_ j hj
      rw [hy] at e1
      cases e1
      rw [e2]; exact hit
    · intro m hm hlt
      obtain ⟨y', e1, e2⟩ := at_ m hm
      rw [e2]; exact hno m y' hlt e1
  · exact h.elim
theorem idx_rd {p : Addr} {x : V} {H : Hp} {Q : VK} {xs : List V} (j : Nat) (h : H p = some (.lst xs)) (h1 : flatV x = true) (h2 : xs.all flatV = true) (h3 : ∃ y, xs[j]? = some y ∧ eqV y x = true) (h4 : ∀ m y, m < j → xs[m]? = some y → eqV y x = false) (q : Q (.int j) H) : rIdxA p x H Q := by unfold rIdxA; exact ⟨xs, j, h, h1, h2, h3, h4, q⟩
theorem peM_index {o e : Expr} {to : TE} {t : TA} {apos cpos : Pos} (hK : X.K = K) (ho : PE X o to) (ha : PA X [e] t) (hbase : attributeBase o "index" X.env (eval o X.env) = eval o X.env := by rfl)
    (hfew : ((backTo cpos (starEach [e] X.env)).all (fun x => !x.1) && (backToKw cpos (keywordEach [] X.env)).all (fun x => x.1.isSome)
      && decide ([e].length + ([] : List Keyword).length + (if ([] : List Keyword).isEmpty then 0 else 1) < 30)) = true := by rfl)
    (hline : (apos.endLine == cpos.line) = true := by rfl) (hs : starEach [e] X.env = (false, eval e X.env) :: starEach [] X.env := by rfl) (hplain : (backTo cpos (starEach [] X.env)).any (·.1) = false := by rfl) : PE X (.Call (.Attribute o "index" apos) [e] [] cpos) (qBM K rIdxM to t) := by
  subst hK
  exact peBM PySem.F.slot_list_index PySem.F.type_list_index mIndex ho ha hbase hfew hline hs hplain
end
/-! ### the same words, closed: a row of literals alone would be run while its term is read -/
section
variable {X : Cx} {st : Stmt} {rest : List Stmt} {t u : TS} {e : Expr} {es : List Expr} {te : TE} {ta : TA}
@[irreducible] def PSsI (X : Cx) (st : List Stmt) (t : TS) : Prop := PSs X st t
@[irreducible] def PSI (X : Cx) (st : Stmt) (t : TS) : Prop := PS X st t
@[irreducible] def PEI (X : Cx) (e : Expr) (t : TE) : Prop := PE X e t
@[irreducible] def PAI (X : Cx) (es : List Expr) (t : TA) : Prop := PA X es t
theorem psOf (h : PS X st t) : PSI X st t := by unfold PSI; exact h
theorem pssTo {st : List Stmt} (h : PSsI X st t) : PSs X st t := by unfold PSsI at h; exact h
theorem pssI_cons (h1 : PSI X st t) (h2 : PSsI X rest u) : PSsI X (st :: rest) (tSeq t u) := by unfold PSsI PSI at *; exact pss_cons h1 h2
theorem pssI_one (h1 : PSI X st t) : PSsI X [st] t := by unfold PSsI PSI at *; exact pss_one h1
theorem psIS {i : Nat} {x : Str} {pos' pos : Pos} (hN : X.N.Nodup) (he : PEI X e te) (hi : X.N[i]? = some x := by rfl) (hx : Loc X.env.scope x := by first | exact Or.inl rfl | exact Or.inr rfl) (hs : swapsWith e (some (.Name x pos')) pos.line X.env = pure false := by rfl) (hf : X.fn x = true ∨ X.env.scope.names.lookup x = some .local := by first | exact .inl rfl | exact .inr rfl | assumption) :
    PSI X (.Assign [.Name x pos'] e pos) (tAsg te (gName i)) := by unfold PSI PEI at *; exact ps_set hN hi hx he hs hf
theorem peILst {pos : Pos} (h : PAI X es ta) : PEI X (.List es pos) (qLst ta) := by unfold PEI PAI at *; exact peLst h
theorem peI_str {x j pos} : PEI X (.Constant (.str x) j pos) (tC (.str x)) := by unfold PEI; exact pe_str
theorem paI_nil : PAI X [] tNil := by unfold PAI; exact pa_nil
theorem paI_cons (ha : PEI X e te) (hr : PAI X es ta) (hs : starEach (e :: es) X.env = (false, eval e X.env) :: starEach es X.env := by rfl) : PAI X (e :: es) (tCons te ta) := by unfold PEI PAI at *; exact pa_cons ha hr hs
end
end L2

set_option Elab.async false
set_option linter.all false
set_option maxRecDepth 100000
set_option maxHeartbeats 1000000
namespace L2
open PySem PySem.Spec PyProof.Rows
/-! ### sorted(e, reverse = True), of ints -/
section
variable {X : Cx} {K : PySem.W.Frag}
end
end L2

set_option Elab.async false
set_option linter.all false
set_option maxRecDepth 100000
set_option maxHeartbeats 2000000
namespace L2
open PySem PySem.Spec PyProof.Rows
/-! ### zip over two lists -/
section
variable {X : Cx} {K : PySem.W.Frag}
end
section
variable {K : PySem.W.Frag} {g : TG} {tb : TS} {D : Ends} {σ : St} {H : Hp} {R : It → Hp → Prop}
end
end L2

set_option Elab.async false
set_option linter.all false
set_option maxRecDepth 100000
set_option maxHeartbeats 2000000
namespace L2
open PySem PySem.Spec PyProof.Rows
section
variable {X : Cx} {K : PySem.W.Frag}
/-! ### list(range(n)) -/
end
/-! ### comprehensions of things with new objects behind them -/
section
variable {J : It} {n : Nat} {H1 : Hp} {X : Nat → V → Hp → Prop} {g : TG} {tt : TT} {te : TE} {σ0 : St} {Q : VK}
end
end L2

set_option Elab.async false
set_option linter.all false
set_option maxRecDepth 100000
set_option maxHeartbeats 2000000
/-! ### zip over three lists: iterators at n, n + 1, n + 2, what is walked at n + 3, what is told at n + 4, the zip at n + 5 -/
namespace PySem
open Sem (wp)
namespace F
end F
section
variable {prog : Program} {w : World} {A : Around} {E : Value → Shared → Prop} {s : Shared}
end
section
variable {prog : Program} {w : World} {A : Around} {E : Value → Shared → Prop} {s : Shared}
end
end PySem

set_option Elab.async false
set_option linter.all false
set_option maxRecDepth 100000
set_option maxHeartbeats 2000000
namespace L2
open PySem PySem.Spec PyProof.Rows
/-! ### zip over three lists of one length -/
section
variable {X : Cx} {K : PySem.W.Frag}
end
section
variable {K : PySem.W.Frag} {H : Hp} {R : It → Hp → Prop}
end
end L2

set_option Elab.async false
set_option linter.all false
set_option maxRecDepth 100000
set_option maxHeartbeats 2000000
namespace L2
open PySem PySem.Spec PyProof.Rows
/-! ### xs.pop() -/
section
variable {X : Cx} {K : PySem.W.Frag}
end
end L2

set_option Elab.async false
set_option linter.all false
set_option maxRecDepth 100000
set_option maxHeartbeats 2000000
namespace L2
open PySem PySem.Spec PyProof.Rows
/-! ### sorted(e), of ints -/
section
variable {X : Cx} {K : PySem.W.Frag}
end
end L2

set_option Elab.async false
set_option linter.all false
set_option maxRecDepth 100000
set_option maxHeartbeats 2000000
namespace L2
open PySem PySem.Spec PyProof.Rows
/-! ### tuple(e) of a list; tuples walked in a comprehension -/
section
variable {X : Cx} {K : PySem.W.Frag}
end
theorem Same.seqT {K : PySem.W.Frag} {H H' : Hp} {a : Addr} {xs : List V} (e : Same H H') (h : H a = some (.tup xs)) : SqT K H' a xs := SqT.of (e _ _ h)
theorem Wk.tup {K : PySem.W.Frag} {a : Addr} {xs : List V} {H1 : Hp} (h : H1 a = some (.tup xs)) : Wk (Itt K a) xs.length H1 fun i x _ => xs[i]? = some x :=
  ⟨fun i H s hi => ⟨xs, xs[i], Same.seqT s h, by simp [hi]⟩, fun H s => ⟨xs, Same.seqT s h, Nat.le_refl _⟩, fun i H x H' s _ y => by
    obtain ⟨e, y⟩ := y
    subst e
    exact ⟨Same.refl _, y xs (Same.seqT s h)⟩⟩
end L2

set_option Elab.async false
set_option linter.all false
set_option maxRecDepth 100000
set_option maxHeartbeats 4000000
namespace L2
open PySem PySem.Spec PyProof.Rows
/-! ### isinstance(x, (C, D)) -/
section
variable {X : Cx} {K : PySem.W.Frag} {H : Hp} {Q : VK}
theorem kitx_ty {pins : List (Addr × Obj)} {σ : St} {s : Shared} {x : V} {u t : Value} (I : Inv X pins σ H s) (rx : RelV x u) (ty : TyOf X.K H x t) : ∃ P : Heap → Prop, PySem.W.KitX X.K u t P ∧ P s.heap ∧ u ≠ .builtin "__main__.__loader__#opaque" := by
  cases ty with
  | non => cases (show u = Value.none from rx); exact ⟨_, PySem.W.kitx_none, True.intro, fun z => nomatch z⟩
  | bl y => cases (show u = Value.bool y from rx); exact ⟨_, PySem.W.kitx_bool, True.intro, fun z => nomatch z⟩
  | int i => obtain ⟨t, q⟩ := (show ∃ t, u = Value.int i t from rx); cases q; exact ⟨_, PySem.W.kitx_int, True.intro, fun z => nomatch z⟩
  | str y => obtain ⟨t, q⟩ := (show ∃ t, u = Value.str y t from rx); cases q; exact ⟨_, PySem.W.kitx_str, True.intro, fun z => nomatch z⟩
  | flt y => obtain ⟨t, q⟩ := (show ∃ t, u = Value.float y t from rx); cases q; exact ⟨_, PySem.W.kitx_float, True.intro, fun z => nomatch z⟩
  | @lst a xs ea =>
    cases (show u = Value.ref a from rx)
    obtain ⟨_, _, n, _, h1⟩ := (show ObjOk X.prog X.w H s.heap a (.lst xs) from I.hok a _ ea)
    exact ⟨_, PySem.W.kitx_list, ⟨_, h1, rfl⟩, fun z => nomatch z⟩
  | @frz a ob xs ea =>
    cases (show u = Value.ref a from rx)
    obtain ⟨_, _, _, n, _, h1⟩ := (show ObjOk X.prog X.w H s.heap a (.frz ob (.lst xs)) from I.hok a _ ea)
    exact ⟨_, PySem.W.kitx_list, ⟨_, h1, rfl⟩, fun z => nomatch z⟩
  | @tup a xs ea =>
    cases (show u = Value.ref a from rx)
    obtain ⟨_, _, _, p⟩ := (show ObjOk X.prog X.w H s.heap a (.tup xs) from I.hok a _ ea)
    obtain ⟨o, h1, h2, _⟩ := p
    exact ⟨_, PySem.W.kitx_tuple, ⟨o, h1, h2⟩, fun z => nomatch z⟩
  | @dK a kvs ea =>
    cases (show u = Value.ref a from rx)
    obtain ⟨_, _, vs, _, p⟩ := (show ObjOk X.prog X.w H s.heap a (.dK kvs) from I.hok a _ ea)
    obtain ⟨o, es, ep, h1, h2, _⟩ := p
    exact ⟨_, PySem.W.kitx_dict, ⟨o, h1, h2.1⟩, fun z => nomatch z⟩
  | @dT a kvs ea =>
    cases (show u = Value.ref a from rx)
    obtain ⟨_, _, xs, _, o, es, ep, h1, h2, _⟩ := (show ObjOk X.prog X.w H s.heap a (.dT kvs) from I.hok a _ ea)
    exact ⟨_, PySem.W.kitx_dict, ⟨o, h1, h2.1⟩, fun z => nomatch z⟩
  | @ins a C dx fs ea cl ha hn htk hm =>
    cases (show u = Value.ref a from rx)
    obtain ⟨mA, O, _⟩ := ins_get I.hok ea
    obtain ⟨od, J, _⟩ := O.look
    exact ⟨_, PySem.W.kitx_own (cl.get _) cl.hd ha hn htk hm, J, fun z => nomatch z⟩
@[irreducible] def rIsiT (K : PySem.W.Frag) (x c : V) (H : Hp) (Q : VK) : Prop := ∃ (p : Addr) (ns : List String) (t : Value) (b : Bool), c = .ref p ∧ H p = some (.tup (ns.map V.ty)) ∧ TyOf K H x t ∧ PySem.W.kitAny K t (ns.map Value.type) = some b ∧ Q (.bl b) H
def rIsiTM (K : PySem.W.Frag) : List V → Hp → VK → Prop := fun xs H Q => match xs with
  | [x, c] => rIsiT K x c H Q
  | _ => False
theorem vals_ty : ∀ {ns : List String} {us : List Value}, Vals (ns.map V.ty) us → us = ns.map Value.type
  | [], _, .nil => rfl
  | n :: ns, _, .cons r t => by rw [show _ = Value.type n from r, vals_ty t]; rfl
theorem cIsiT (hK : X.K = K) : CallR X (.builtin "isinstance") (rIsiTM K) := by
  subst hK
  intro pins s σ H xs us Q I r h
  unfold rIsiTM at h
  split at h
  · unfold rIsiT at h
    obtain ⟨p, ns, t, b, rfl, h1, h2, h3, h4⟩ := h
    obtain ⟨u, w, rfl, r1, r2⟩ := vals2 r
    cases r2
    obtain ⟨P, z1, z2, z3⟩ := kitx_ty I r1 h2
    obtain ⟨_, its, r3, o, e1, e2, n, e3⟩ := (show ObjOk X.prog X.w H s.heap p (.tup (ns.map V.ty)) from I.hok p _ h1)
    have ei := vals_ty r3
    subst ei
    obtain ⟨oc, od, odt, osl⟩ := o
    cases e2
    cases e3
    exact PySem.W.kia_tup z1 I.kIn z2 e1 h3 z3 fun tk => ⟨.bl b, H, I.tok _, rfl, h4⟩
  · exact h.elim
theorem isiTI_rd {p : Addr} {i : Int} {ns : List String} {b : Bool} (h : H p = some (.tup (ns.map V.ty))) (q : Q (.bl b) H) (e : PySem.W.kitAny K (.type "int") (ns.map Value.type) = some b := by rfl) : rIsiT K (.int i) (.ref p) H Q := by
  unfold rIsiT; exact ⟨p, ns, _, b, rfl, h, .int i, e, q⟩
theorem isiTS_rd {p : Addr} {x : Str} {ns : List String} {b : Bool} (h : H p = some (.tup (ns.map V.ty))) (q : Q (.bl b) H) (e : PySem.W.kitAny K (.type "str") (ns.map Value.type) = some b := by rfl) : rIsiT K (.str x) (.ref p) H Q := by
  unfold rIsiT; exact ⟨p, ns, _, b, rfl, h, .str x, e, q⟩
theorem isiTN_rd {p : Addr} {ns : List String} {b : Bool} (h : H p = some (.tup (ns.map V.ty))) (q : Q (.bl b) H) (e : PySem.W.kitAny K (.type "NoneType") (ns.map Value.type) = some b := by rfl) : rIsiT K .non (.ref p) H Q := by
  unfold rIsiT; exact ⟨p, ns, _, b, rfl, h, .non, e, q⟩
theorem isiTB_rd {p : Addr} {x : Bool} {ns : List String} {b : Bool} (h : H p = some (.tup (ns.map V.ty))) (q : Q (.bl b) H) (e : PySem.W.kitAny K (.type "bool") (ns.map Value.type) = some b := by rfl) : rIsiT K (.bl x) (.ref p) H Q := by
  unfold rIsiT; exact ⟨p, ns, _, b, rfl, h, .bl x, e, q⟩
theorem isiTL_rd {p a : Addr} {xs : List V} {ns : List String} {b : Bool} (h : H p = some (.tup (ns.map V.ty))) (ha : H a = some (.lst xs)) (q : Q (.bl b) H) (e : PySem.W.kitAny K (.type "list") (ns.map Value.type) = some b := by rfl) : rIsiT K (.ref a) (.ref p) H Q := by
  unfold rIsiT; exact ⟨p, ns, _, b, rfl, h, .lst ha, e, q⟩
theorem isiTT_rd {p a : Addr} {xs : List V} {ns : List String} {b : Bool} (h : H p = some (.tup (ns.map V.ty))) (ha : H a = some (.tup xs)) (q : Q (.bl b) H) (e : PySem.W.kitAny K (.type "tuple") (ns.map Value.type) = some b := by rfl) : rIsiT K (.ref a) (.ref p) H Q := by
  unfold rIsiT; exact ⟨p, ns, _, b, rfl, h, .tup ha, e, q⟩
end
/-! ### list.count of a text among things of all kinds -/
section
variable {X : Cx} {K : PySem.W.Frag}
def isT (k : Str) : V → Bool
  | .str z => z == k
  | _ => false
def isTU (k : Str) : Value → Bool
  | .str z _ => z == k
  | _ => false
theorem isTU_of {k : Str} {x : V} {u : Value} (r : RelV x u) : isTU k u = isT k x := by
  cases x with
  | non => cases (show u = Value.none from r); rfl
  | bl b => cases (show u = Value.bool b from r); rfl
  | int i => obtain ⟨t, e⟩ := (show ∃ t, u = Value.int i t from r); cases e; rfl
  | str x => obtain ⟨t, e⟩ := (show ∃ t, u = Value.str x t from r); cases e; rfl
  | byt b => obtain ⟨t, e⟩ := (show ∃ t, u = Value.bytes b t from r); cases e; rfl
  | flt b => obtain ⟨t, e⟩ := (show ∃ t, u = Value.float b t from r); cases e; rfl
  | ref a => cases (show u = Value.ref a from r); rfl
  | ty n => cases (show u = Value.type n from r); rfl
theorem count_isT {k : Str} : ∀ {xs : List V} {us : List Value}, Vals xs us → us.countP (isTU k) = xs.countP (isT k)
  | _, _, .nil => rfl
  | y :: xs, u :: us, .cons r t => by rw [List.countP_cons, List.countP_cons, isTU_of r, count_isT t]
/-- a thing that a text can be held against -/
def Plain (H : Hp) (x : V) : Prop := flatV x = true ∨ ∃ a, x = .ref a ∧ ((∃ ys, H a = some (.lst ys)) ∨ ∃ ys, H a = some (.tup ys))
theorem eqT_at {pins : List (Addr × Obj)} {σ : St} {H : Hp} {s : Shared} {A : Around} {k : Str} {tk : Tok} {x : V} {u : Value} (I : Inv X pins σ H s) (hu : A.units < cLine) (r : RelV x u) (f : Plain H x) : SeqAt.EqAt A s u (.str k tk) (isTU k u) := by
  rw [isTU_of r]
  rcases f with f | ⟨a, rfl, f⟩
  · cases x with
    | non => cases (show u = Value.none from r); exact SeqAt.EqAt.none_str _ _
    | bl b => cases (show u = Value.bool b from r); exact SeqAt.EqAt.bool_str _ _ _
    | int i => obtain ⟨t, e⟩ := (show ∃ t, u = Value.int i t from r); cases e; exact SeqAt.EqAt.int_str _ _ _ _
    | str x => obtain ⟨t, e⟩ := (show ∃ t, u = Value.str x t from r); cases e; exact SeqAt.EqAt.str_str _ _ _ _
    | _ => exact absurd (show false = true from f) Bool.false_ne_true
  · cases (show u = Value.ref a from r)
    rcases f with ⟨ys, e⟩ | ⟨ys, e⟩
    · obtain ⟨_, its, n, _, e⟩ := (show ObjOk X.prog X.w H s.heap a (.lst ys) from I.hok a _ e)
      exact SeqAt.EqAt.list_str _ _ ⟨_, e, rfl, n, rfl⟩ hu
    · obtain ⟨_, its, _, o, e, c⟩ := (show ObjOk X.prog X.w H s.heap a (.tup ys) from I.hok a _ e)
      exact SeqAt.EqAt.tuple_str _ _ ⟨o, e, c⟩ hu
@[irreducible] def rCntT (p : Addr) (k : Str) (H : Hp) (Q : VK) : Prop := ∃ xs, H p = some (.lst xs) ∧ (∀ x ∈ xs, Plain H x) ∧ Q (.int (xs.countP (isT k) : Nat)) H
def rCntTM : Addr → List V → Hp → VK → Prop := fun p vs H Q => match vs with
  | [.str k] => rCntT p k H Q
  | _ => False
theorem vals_mem : ∀ {xs : List V} {us : List Value}, Vals xs us → ∀ u ∈ us, ∃ x ∈ xs, RelV x u
  | _, _, .nil => fun u hu => by cases hu
  | y :: xs, u :: us, .cons r t => fun u' hu => by
    rcases List.mem_cons.mp hu with rfl | hu
    · exact ⟨y, List.mem_cons_self, r⟩
    · obtain ⟨x, hx, rx⟩ := vals_mem t u' hu
      exact ⟨x, List.mem_cons_of_mem _ hx, rx⟩
theorem mCountT (hu : X.A.units + 40 < cLine) : MtA X "list.count" rCntTM := fun pins s σ H p xs us Q I r h => by
  unfold rCntTM at h
  split at h
  · rename_i k
    unfold rCntT at h
    obtain ⟨ys, h1, h2, h3⟩ := h
    obtain ⟨u, rfl, ru⟩ := r.one
    obtain ⟨tk, rfl⟩ := (show ∃ t, u = Value.str k t from ru)
    obtain ⟨z, its, n, r', hl, e⟩ := I.lstM h1
    refine call_meets F.slot_list_count ⟨_, e, rfl⟩ F.entry_list_count (F.args_list_count_2 _ _) (SeqAt.list_countAt p its.toArray n none #[] (.str k tk) (isTU k)) ⟨e, fun y hy => ?_, ?_⟩
    · obtain ⟨x, hx, rx⟩ := vals_mem r' y (by simpa using hy)
      exact eqT_at I (by rw [in1_units]; omega) rx (h2 x hx)
    · have ec : its.toArray.toList.countP (isTU k) = ys.countP (isT k) := count_isT r'
      exact ⟨.int _, H, I.tok _, ⟨_, by rw [ec]⟩, h3⟩
  · exact h.elim
theorem cntT_rd {p : Addr} {k : Str} {H : Hp} {Q : VK} {xs : List V} (h : H p = some (.lst xs)) (h1 : ∀ x ∈ xs, Plain H x) (q : Q (.int (xs.countP (isT k) : Nat)) H) : rCntT p k H Q := by unfold rCntT; exact ⟨xs, h, h1, q⟩
theorem peM_countT {o e : Expr} {to : TE} {t : TA} {apos cpos : Pos} (hK : X.K = K) (hu : X.A.units + 40 < cLine) (ho : PE X o to) (ha : PA X [e] t) (hbase : attributeBase o "count" X.env (eval o X.env) = eval o X.env := by rfl)
    (hfew : ((backTo cpos (starEach [e] X.env)).all (fun x => !x.1) && (backToKw cpos (keywordEach [] X.env)).all (fun x => x.1.isSome)
      && decide ([e].length + ([] : List Keyword).length + (if ([] : List Keyword).isEmpty then 0 else 1) < 30)) = true := by rfl)
    (hline : (apos.endLine == cpos.line) = true := by rfl) (hs : starEach [e] X.env = (false, eval e X.env) :: starEach [] X.env := by rfl) (hplain : (backTo cpos (starEach [] X.env)).any (·.1) = false := by rfl) : PE X (.Call (.Attribute o "count" apos) [e] [] cpos) (qBM K rCntTM to t) := by
  subst hK
  exact peBM PySem.F.slot_list_count PySem.F.type_list_count (mCountT hu) ho ha hbase hfew hline hs hplain
end
end L2

set_option Elab.async false
set_option linter.all false
set_option maxRecDepth 100000
set_option maxHeartbeats 4000000
namespace L2
open PySem PySem.Spec PyProof.Rows
/-! ### a class of exceptions with an __init__ of its own: it is made -/
section
variable {prog : Program} {w : World} {A : Around} {E : Value → Shared → Prop} {h : Heap} {g : Array GenState} {d : Drawn} {t : Nat} {os : OsState}
variable {nm q : Str} {C N : Addr} {bs bm bmB : List Value} {hdct : Bool} {sn : List Str} {sub : List Value} {ab : Bool} {col : Option Bool} {dd : Option Addr} {k0 k1 k2 k3 k5 : Option Value} {B newId initId : String} {K : PySem.W.Frag}
end
section
variable {prog : Program} {w : World} {A : Around} {E : Value → Shared → Prop} {s : Shared} {env : Env}
variable {nm q : Str} {C N : Addr} {bs bm bmB : List Value} {hdct : Bool} {sn : List Str} {sub : List Value} {ab : Bool} {col : Option Bool} {dd : Option Addr} {k0 k1 k2 k3 k5 : Option Value} {B newId initId : String} {K : PySem.W.Frag}
end
/-! ### its attribute is stored -/
section
open PySem.W
variable {prog : Program} {w : World} {A : Around} {E : Value → Shared → Prop} {s : Shared} {K : Frag}
end
end L2

set_option Elab.async false
set_option linter.all false
set_option maxRecDepth 100000
set_option maxHeartbeats 4000000
namespace L2
open PySem PySem.Spec PyProof.Rows
/-! ### an exception that is being made -/
section
variable {X : Cx} {K : PySem.W.Frag}
/-! ### it is raised -/
section
variable {pins : List (Addr × Obj)} {σ : St} {H : Hp} {s : Shared} {e : Addr} {φ : Heap → Prop}
end
end
end L2

set_option Elab.async false
set_option linter.all false
set_option maxRecDepth 100000
set_option maxHeartbeats 4000000
namespace L2
open PySem PySem.Spec PyProof.Rows
/-! ### a caught exception with a dict: its class, its attribute -/
section
open PySem.W PySem.Calls
end
section
variable {X : Cx} {K : PySem.W.Frag} {H : Hp} {Q : VK}
/-! e.f of a caught exception -/
end
end L2
namespace L2
open PySem PySem.Spec PyProof.Rows
/-! ### short words for a class with an __init__ -/
end L2

set_option Elab.async false
set_option linter.all false
set_option maxRecDepth 100000
set_option maxHeartbeats 2000000
namespace L2
open PySem PySem.Spec PyProof.Rows
/-! ### comprehensions whose target is seen by an inner one: it is a cell -/
section
variable {X : Cx} {pins : List (Addr × Obj)} {σ : St} {H : Hp} {s2 : Shared}
end
end L2

set_option Elab.async false
set_option linter.all false
set_option maxRecDepth 100000
set_option maxHeartbeats 1000000
namespace L2
open PySem PySem.Spec PyProof.Rows

/-! ### lists of pairs as tables -/
section
variable {κ : Type} [DecidableEq κ]
def valV (kvs : List (κ × V)) (k : κ) : Option V := (kvs.find? fun kv => decide (kv.1 = k)).map (·.2)
/-- in its place, or at the end -/
def putK (kvs : List (κ × V)) (k : κ) (v : V) : List (κ × V) :=
  if (kvs.any fun kv => decide (kv.1 = k)) = true then kvs.map (fun kv => if kv.1 = k then (kv.1, v) else kv) else kvs ++ [(k, v)]
theorem valV_pos {p : κ × V} {r : List (κ × V)} {k : κ} (e : p.1 = k) : valV (p :: r) k = some p.2 := by simp [valV, List.find?_cons, e]
theorem valV_neg {p : κ × V} {r : List (κ × V)} {k : κ} (e : ¬ p.1 = k) : valV (p :: r) k = valV r k := by simp [valV, List.find?_cons, e]
theorem valV_any (k : κ) : ∀ kvs : List (κ × V), (kvs.any fun kv => decide (kv.1 = k)) = (valV kvs k).isSome
  | [] => rfl
  | p :: r => by
    rw [List.any_cons]
    by_cases e : p.1 = k
    · simp only [valV_pos e, decide_eq_true e, Bool.true_or, Option.isSome_some]
    · rw [valV_neg e, decide_eq_false e, Bool.false_or]; exact valV_any k r
theorem valV_map (k j : κ) (y : V) : ∀ kvs : List (κ × V), valV (kvs.map fun kv => if kv.1 = k then (kv.1, y) else kv) j = (valV kvs j).map fun x => if j = k then y else x
  | [] => rfl
  | p :: r => by
    have ih := valV_map k j y r
    rw [List.map_cons]
    by_cases h : p.1 = k
    · rw [if_pos h]
      by_cases e : p.1 = j
      · rw [valV_pos (p := (p.1, y)) e, valV_pos e, Option.map_some, if_pos (e.symm.trans h)]
      · rw [valV_neg (p := (p.1, y)) e, valV_neg e, ih]
    · rw [if_neg h]
      by_cases e : p.1 = j
      · rw [valV_pos (p := p) e, valV_pos e, Option.map_some, if_neg (fun z => h (e.trans z))]
      · rw [valV_neg (p := p) e, valV_neg e, ih]
theorem valV_snoc (k j : κ) (y : V) : ∀ kvs : List (κ × V), valV kvs k = none → valV (kvs ++ [(k, y)]) j = if j = k then some y else valV kvs j
  | [], _ => by
    by_cases e : k = j
    · rw [if_pos e.symm]; exact valV_pos (p := (k, y)) e
    · rw [if_neg (fun z => e z.symm)]; exact valV_neg (p := (k, y)) e
  | p :: r, hn => by
    rw [List.cons_append]
    have hk : ¬ p.1 = k := fun z => by rw [valV_pos z] at hn; cases hn
    rw [valV_neg hk] at hn
    have ih := valV_snoc k j y r hn
    by_cases e : p.1 = j
    · rw [valV_pos e, valV_pos e, if_neg (fun z => hk (e.trans z))]
    · rw [valV_neg e, valV_neg e, ih]
theorem valV_put (kvs : List (κ × V)) (k j : κ) (y : V) : valV (putK kvs k y) j = if j = k then some y else valV kvs j := by
  unfold putK
  by_cases a : (kvs.any fun kv => decide (kv.1 = k)) = true
  · rw [if_pos a, valV_map]
    rw [valV_any] at a
    by_cases e : j = k
    · obtain ⟨x, hx⟩ := Option.isSome_iff_exists.mp a
      rw [if_pos e, e, hx, Option.map_some, if_pos rfl]
    · rw [if_neg e]
      cases valV kvs j with
      | none => rfl
      | some x => rw [Option.map_some, if_neg e]
  · rw [if_neg a]
    refine valV_snoc k j y kvs ?_
    rw [valV_any] at a
    cases q : valV kvs k with
    | none => rfl
    | some x => rw [q] at a; exact (a rfl).elim
theorem length_putK (kvs : List (κ × V)) (k : κ) (v : V) : (putK kvs k v).length ≤ kvs.length + 1 := by
  unfold putK
  split
  · rw [List.length_map]; omega
  · rw [List.length_append, List.length_cons, List.length_nil]; omega
theorem RelO.isSome_eq {o : Option V} {u : Option Value} (r : RelO o u) : o.isSome = u.isSome := by
  cases o with
  | none => cases u with
    | none => rfl
    | some _ => exact (show False from r).elim
  | some _ => cases u with
    | none => exact (show False from r).elim
    | some _ => rfl
theorem RelO.getD {o : Option V} {u : Option Value} {d : V} {d' : Value} (r : RelO o u) (rd : RelV d d') : RelV (o.getD d) (u.getD d') := by
  cases o with
  | none => cases u with
    | none => exact rd
    | some _ => exact (show False from r).elim
  | some _ => cases u with
    | none => exact (show False from r).elim
    | some _ => exact r

/-- raw tables of the same keys -/
theorem KV.val {kvs : List (κ × V)} {vs : List (κ × Value)} (r : KV kvs vs) (k : κ) : RelO (valV kvs k) (valueAt vs k) := by
  unfold KV at r
  induction r with
  | nil => exact True.intro
  | @cons p q ps qs h t ih =>
    obtain ⟨h1, h2⟩ := h
    by_cases e : p.1 = k
    · have e' : q.1 = k := h1.symm.trans e
      have b : valueAt (q :: qs) k = some q.2 := by simp [valueAt, List.find?_cons, e']
      rw [valV_pos e, b]; exact h2
    · have e' : ¬ q.1 = k := fun z => e (h1.trans z)
      have b : valueAt (q :: qs) k = valueAt qs k := by simp [valueAt, List.find?_cons, e']
      rw [valV_neg e, b]; exact ih
theorem KV.any {kvs : List (κ × V)} {vs : List (κ × Value)} (r : KV kvs vs) (k : κ) : (kvs.any fun kv => decide (kv.1 = k)) = vs.any fun kv => decide (kv.1 = k) := by
  unfold KV at r
  induction r with
  | nil => rfl
  | cons h t ih => rw [List.any_cons, List.any_cons, ih, h.1]
theorem KV.repl {kvs : List (κ × V)} {vs : List (κ × Value)} (r : KV kvs vs) (k : κ) {y : V} {u : Value} (ry : RelV y u) :
    KV (kvs.map fun kv => if kv.1 = k then (kv.1, y) else kv) (vs.map fun kv => if kv.1 = k then (kv.1, u) else kv) := by
  unfold KV at r ⊢
  induction r with
  | nil => exact .nil
  | @cons p q ps qs h t ih =>
    rw [List.map_cons, List.map_cons]
    refine .cons ?_ ih
    obtain ⟨h1, h2⟩ := h
    by_cases e : p.1 = k
    · rw [if_pos e, if_pos (h1.symm.trans e)]; exact ⟨h1, ry⟩
    · rw [if_neg e, if_neg (fun z => e (h1.trans z))]; exact ⟨h1, h2⟩
theorem KV.put {kvs : List (κ × V)} {vs : List (κ × Value)} (r : KV kvs vs) (k : κ) {y : V} {u : Value} (ry : RelV y u) : KV (putK kvs k y) (stored vs k u) := by
  unfold putK stored
  rw [r.any k]
  by_cases e : (vs.any fun kv => decide (kv.1 = k)) = true
  · rw [if_pos e, if_pos e]; exact r.repl k ry
  · rw [if_neg e, if_neg e]; exact Paired.snoc r ⟨rfl, ry⟩
theorem KV.length {kvs : List (κ × V)} {vs : List (κ × Value)} (r : KV kvs vs) : kvs.length = vs.length := Paired.length r
end


/-! ### a tracked dict, its keys ints and texts or tuples of these -/
theorem kV_is {P : Program} {w : World} {k : Key} {u : Value} (r : RelV (kV k) u) : (mixKind P w).is k u = true := by
  cases k with
  | inl i => obtain ⟨t, e⟩ := (show ∃ t, u = Value.int i t from r); subst e; exact mixKind_int P w i t
  | inr x => obtain ⟨t, e⟩ := (show ∃ t, u = Value.str x t from r); subst e; exact mixKind_str P w x t
theorem items_are {P : Program} {w : World} : ∀ {ks : List Key} {us : List Value}, Vals (ks.map kV) us → ItemsAre (mixKind P w) ks us
  | [], _, r => by rw [List.map_nil] at r; cases r; exact .nil
  | k :: ks, _, r => by
    rw [List.map_cons] at r
    cases r with
    | cons h t => exact .cons (kV_is h) (items_are t)

/-- raw entries of a dict with tuple keys -/
abbrev KT (H : Hp) : List (List Key × V) → List (List Key × Addr × Value) → Prop := Paired fun p q => p.1 = q.1 ∧ H q.2.1 = some (.tup (p.1.map kV)) ∧ RelV p.2 q.2.2
theorem KT.val {H : Hp} {kvs : List (List Key × V)} {xs : List (List Key × Addr × Value)} (r : KT H kvs xs) (k : List Key) : RelO (valV kvs k) ((atKey xs k).map (·.2)) := by
  induction r with
  | nil => exact True.intro
  | @cons p q ps qs h t ih =>
    obtain ⟨h1, _, h2⟩ := h
    by_cases e : p.1 = k
    · have e' : q.1 = k := h1.symm.trans e
      have b : atKey (q :: qs) k = some q.2 := by simp [atKey, List.find?_cons, e']
      rw [valV_pos e, b]; exact h2
    · have e' : ¬ q.1 = k := fun z => e (h1.trans z)
      have b : atKey (q :: qs) k = atKey qs k := by simp [atKey, List.find?_cons, e']
      rw [valV_neg e, b]; exact ih
theorem KT.repl {H : Hp} {kvs : List (List Key × V)} {xs : List (List Key × Addr × Value)} (r : KT H kvs xs) (k : List Key) {y : V} {u : Value} (ry : RelV y u) :
    KT H (kvs.map fun kv => if kv.1 = k then (kv.1, y) else kv) (xs.map (putAt k u)) := by
  induction r with
  | nil => exact .nil
  | @cons p q ps qs h t ih =>
    rw [List.map_cons, List.map_cons]
    refine .cons ?_ ih
    obtain ⟨h1, h2, h3⟩ := h
    unfold putAt
    by_cases e : p.1 = k
    · rw [if_pos e, if_pos (h1.symm.trans e)]; exact ⟨h1, h2, ry⟩
    · rw [if_neg e, if_neg (fun z => e (h1.trans z))]; exact ⟨h1, h2, h3⟩
theorem KT.put {H : Hp} {kvs : List (List Key × V)} {xs : List (List Key × Addr × Value)} (r : KT H kvs xs) (k : List Key) {b : Addr} {y : V} {u : Value} (hb : H b = some (.tup (k.map kV))) (ry : RelV y u) :
    KT H (putK kvs k y) (storedH xs k b u) := by
  have e : (kvs.any fun kv => decide (kv.1 = k)) = (atKey xs k).isSome := by
    rw [valV_any, (r.val k).isSome_eq, Option.isSome_map]
  unfold putK storedH
  rw [e]
  by_cases q : (atKey xs k).isSome = true
  · rw [if_pos q, if_pos q]; exact r.repl k ry
  · rw [if_neg q, if_neg q]; exact Paired.snoc r ⟨rfl, hb, ry⟩
theorem KT.keeps {H H' : Hp} {kvs : List (List Key × V)} {xs : List (List Key × Addr × Value)} (r : KT H kvs xs) (ht : ∀ b ys, H b = some (.tup ys) → H' b = some (.tup ys)) : KT H' kvs xs :=
  Paired.mapP r fun _ _ z => ⟨z.1, ht _ _ z.2.1, z.2.2⟩

section
variable {P : Program} {w : World} {H : Hp} {h : Heap} {a : Addr}
theorem rd_of {u : HO} (ok : HOk P w H h) (e : Rd H a u) : ObjOk P w H h a u := e.ok ok
theorem dk_rd {kvs : List (Key × V)} (ok : HOk P w H h) (e : Rd H a (.dK kvs)) : kvs.length ≤ sizeLine ∧ (a == sysModules) = false ∧ ∃ vs, KV kvs vs ∧ h.DictOf (mixKind P w) a vs :=
  show ObjOk P w H h a (.dK kvs) from rd_of ok e
theorem dk_of {kvs : List (Key × V)} (ok : HOk P w H h) (e : H a = some (.dK kvs)) : kvs.length ≤ sizeLine ∧ (a == sysModules) = false ∧ ∃ vs, KV kvs vs ∧ h.DictOf (mixKind P w) a vs := dk_rd ok (.inl e)
/-- a tracked tuple of ints and texts is a key -/
theorem key_of {ks : List Key} (ok : HOk P w H h) (e : H a = some (.tup (ks.map kV))) : (tupleKind (mixKind P w)).is h ks a := by
  obtain ⟨_, its, r, o, h1, h2, n, h3⟩ := (show ObjOk P w H h a (.tup (ks.map kV)) from ok a _ e)
  exact ⟨o, its.toArray, n, h1, h2, h3, by simpa using items_are r⟩
theorem dt_rd {kvs : List (List Key × V)} (ok : HOk P w H h) (e : Rd H a (.dT kvs)) : kvs.length ≤ sizeLine ∧ (a == sysModules) = false ∧
    ∃ xs, KT H kvs xs ∧ h.DictOfH (tupleKind (mixKind P w)) a xs := by
  obtain ⟨z, y, xs, r, o, es, ep, h1, h2, h3, h4, h5⟩ := (show ObjOk P w H h a (.dT kvs) from rd_of ok e)
  refine ⟨z, y, xs, r, o, es, ep, h1, h2, h3, h4, fun x hx => ?_, h5⟩
  have all : ∀ {l : List (List Key × V)} {m : List (List Key × Addr × Value)}, KT H l m → ∀ x ∈ m, (tupleKind (mixKind P w)).is h x.1 x.2.1 := by
    intro l m q
    induction q with
    | nil => intro x hx; exact nomatch hx
    | @cons p q ps qs hq t ih =>
      intro x hx
      rcases List.mem_cons.mp hx with e | hx
      · subst e
        exact key_of ok (by rw [← hq.1]; exact hq.2.1)
      · exact ih x hx
  exact all r x hx
theorem dt_of {kvs : List (List Key × V)} (ok : HOk P w H h) (e : H a = some (.dT kvs)) : kvs.length ≤ sizeLine ∧ (a == sysModules) = false ∧
    ∃ xs, KT H kvs xs ∧ h.DictOfH (tupleKind (mixKind P w)) a xs := dt_rd ok (.inl e)
end

/-- what the dict at a holds at the key y -/
def DGet (H : Hp) (a : Addr) (y : V) (r : Option V) : Prop :=
  (∃ kvs k, Rd H a (.dK kvs) ∧ y = kV k ∧ r = valV kvs k) ∨ ∃ kvs k b, Rd H a (.dT kvs) ∧ y = .ref b ∧ H b = some (.tup (k.map kV)) ∧ r = valV kvs k
/-- the heap behind a[y] = v -/
def DPut (H : Hp) (a : Addr) (y v : V) (H' : Hp) : Prop :=
  (∃ kvs k, H a = some (.dK kvs) ∧ y = kV k ∧ kvs.length < sizeLine ∧ H' = upd H a (.dK (putK kvs k v))) ∨
  ∃ kvs k b, H a = some (.dT kvs) ∧ y = .ref b ∧ H b = some (.tup (k.map kV)) ∧ kvs.length < sizeLine ∧ H' = upd H a (.dT (putK kvs k v))
theorem DGet.t {H : Hp} {a b : Addr} {kvs : List (List Key × V)} {k : List Key} (e : H a = some (.dT kvs)) (eb : H b = some (.tup (k.map kV))) : DGet H a (.ref b) (valV kvs k) := .inr ⟨kvs, k, b, .inl e, rfl, eb, rfl⟩
theorem DPut.t {H : Hp} {a b : Addr} {kvs : List (List Key × V)} {k : List Key} {v : V} (e : H a = some (.dT kvs)) (eb : H b = some (.tup (k.map kV))) (hl : kvs.length < sizeLine) :
    DPut H a (.ref b) v (upd H a (.dT (putK kvs k v))) := .inr ⟨kvs, k, b, e, rfl, eb, hl, rfl⟩


section
variable {X : Cx} {pins : List (Addr × Obj)} {σ : St} {H : Hp} {s : Shared} {a : Addr} {y v : V} {u r : Value} {o : Option V} {A : Around} {E : Value → Shared → Prop}

theorem Inv.big (I : Inv X pins σ H s) : sysModules < s.heap.objs.size := by
  have h : mainGlobals < s.heap.objs.size := (I.mod.glob.keeps I.bk).lt
  exact Nat.lt_trans (by decide) h

/-- d[y], there -/
theorem d_getItem {Q : Value → Shared → Prop} (hu : A.units + 1 < cLine) (I : Inv X pins σ H s) (g : DGet H a y (some v)) (ry : RelV y u) (h : ∀ w' s', Inv X pins σ H s' → RelV v w' → Q w' s') :
    wpAny (model X.prog X.w) A (getItem (.ref a) u) Q E s := by
  rcases g with ⟨kvs, k, e, ey, l⟩ | ⟨kvs, k, b, e, ey, eb, l⟩
  · subst ey
    obtain ⟨z, hd, vs, rel, dd⟩ := dk_rd I.hok e
    obtain ⟨w', hw, rw'⟩ := RelO.some_of (v := v) (o := valueAt vs k) (by rw [l]; exact rel.val k)
    exact wpAny_getItem_of (kV_is ry) dd.mapOf hw (h w' _ (I.tok _) rw')
  · subst ey
    cases (show u = Value.ref b from ry)
    obtain ⟨z, hd, xs, rel, dd⟩ := dt_rd I.hok e
    obtain ⟨w', hw, rw'⟩ := RelO.some_of (v := v) (o := (atKey xs k).map (·.2)) (by rw [l]; exact rel.val k)
    obtain ⟨p, hp, hp2⟩ := Option.map_eq_some_iff.mp hw
    refine wpAny_getItem_heap (tupleKind_room_in1 hu) (key_of I.hok eb) dd hp ?_
    rw [hp2]
    exact h w' _ (I.tok _) rw'
/-- a dict's object is replaced -/
theorem d_write {h' : Heap} {t' : Nat} {ob : HO} (I : Inv X pins σ H s) (mu : Mut (H a)) (hs : Heap.SameBut a s.heap h') (he : ∃ q, h'.get? a = some q) (new : ObjOk X.prog X.w (upd H a ob) h' a ob) :
    Inv X pins σ (upd H a ob) { s with heap := h', toks := t' } :=
  I.write (x := a) (e := a) mu (.inl rfl) (fun b q hb z => (hs.2 b hb).trans z) he new
theorem dk_new {P : Program} {w : World} {H' : Hp} {h' : Heap} {kvs : List (Key × V)} {vs : List (Key × Value)} (z : kvs.length ≤ sizeLine) (hd : (a == sysModules) = false) (rel : KV kvs vs) (dd : h'.DictOf (mixKind P w) a vs) :
    ObjOk P w H' h' a (.dK kvs) := ⟨z, hd, vs, rel, dd⟩
/-- d[y] = v -/
theorem d_setItem {H' : Hp} {Q : Unit → Shared → Prop} (hu : A.units + 1 < cLine) (I : Inv X pins σ H s) (g : DPut H a y v H') (ry : RelV y u) (rv : RelV v r) (h : ∀ s', Inv X pins σ H' s' → Q () s') :
    wpAny (model X.prog X.w) A (setItem (.ref a) u r) Q E s := by
  rcases g with ⟨kvs, k, e, ey, l, eH⟩ | ⟨kvs, k, b, e, ey, eb, l, eH⟩
  · subst ey eH
    obtain ⟨z, hd, vs, rel, dd⟩ := dk_of I.hok e
    have hz : vs.length ≤ sizeLine := by rw [← rel.length]; exact z
    have hl : (putK kvs k v).length ≤ sizeLine := by have := length_putK kvs k v; omega
    refine wpAny_setItem_pairs (hsz := hz) (kV_is ry) dd fun h' dd' hs => h _ ?_
    have he : ∃ q, h'.get? a = some q := let ⟨q, _, _, hq, _⟩ := dd'; ⟨q, hq⟩
    exact d_write I (by rw [e]; exact True.intro) hs he (dk_new hl hd (rel.put k rv) dd')
  · subst ey eH
    cases (show u = Value.ref b from ry)
    obtain ⟨z, hd, xs, rel, dd⟩ := dt_of I.hok e
    have hz : xs.length ≤ sizeLine := by rw [← Paired.length rel]; exact z
    have hl : (putK kvs k v).length ≤ sizeLine := by have := length_putK kvs k v; omega
    refine wpAny_setItem_heap (hsz := hz) (tupleKind_room_in1 hu) (key_of I.hok eb) dd fun h' dd' hs => h _ ?_
    obtain ⟨q, es, ep, hq, h2, h3, h4, _, h5⟩ := dd'
    refine d_write I (by rw [e]; exact True.intro) hs ⟨q, hq⟩ ⟨hl, hd, _, (rel.put k eb rv).keeps fun c ys ec => ?_, q, es, ep, hq, h2, h3, h4, h5⟩
    rw [upd_ne (ne_of ec e (fun z => nomatch z))]
    exact ec
end

section
variable {X : Cx} {pins : List (Addr × Obj)} {σ : St} {H : Hp} {s : Shared} {a : Addr} {kvs : List (Key × V)} {k : Key} {u : Value} {A : Around} {E : Value → Shared → Prop}
end


/-! ### readings and rules -/
/-- the element of a subscription, not a slice -/
def NoSl (i : Expr) : Prop := ∀ ov iv, subscripted i false ov iv = operate [ov, iv] (getItem ov iv)
theorem subD_of {prog : Program} {w : World} {A : Around} {E : Value → Shared → Prop} {s : Shared} {env : Env} {value slice : Expr} {pos : Pos} {T id : String} {Q : Value → Shared → Prop}
    (hl : typeLookup (.type T) "__getitem__" = pure (some (.builtin id))) (hs : NoSl slice)
    (h : wpAny (model prog w) A (eval value env) (fun o s₁ => wpAny (model prog w) A (eval slice env) (fun i s₂ => s₂.TypeIs o T ∧ wpAny (model prog w) A (getItem o i) Q E s₂) E s₁) E s) :
    wpAny (model prog w) A (eval (.Subscript value slice pos) env) Q E s := by
  refine Subscript_ (wpAny_mono h (fun o s₁ h₁ => wpAny_mono h₁ (fun i s₂ h₂ => ?_) fun _ _ x => x) fun _ _ x => x)
  obtain ⟨hT, h₂⟩ := h₂
  unfold subscriptTail
  refine wpAny_bind ?_
  rw [getitemInPython_of_ne hT.not_modules]
  refine wpAny_bind (wpAny_specialOf hT hl ?_)
  have fin : wpAny (model prog w) A (subscripted slice false o i) (fun r s₃ => wpAny (model prog w) A (letTemporaryGo value o r >>= fun _ => pure r) Q E s₃) E s₂ := by
    rw [hs o i]
    exact wpAny_operating (wpAny_mono h₂ (fun r s₃ h₃ => wpAny_bind (wpAny_letTemporaryGo (wpAny_pure h₃))) fun _ _ x => x)
  first
    | exact wpAny_pure (wpAny_bind fin)
    | exact wpAny_bind (wpAny_pure (wpAny_bind fin))
    | exact wpAny_bind fin

theorem dict_typeIs {X : Cx} {pins : List (Addr × Obj)} {σ : St} {H : Hp} {s : Shared} {a : Addr} {y : V} {o : Option V} (I : Inv X pins σ H s) (g : DGet H a y o) : s.TypeIs (.ref a) "dict" := by
  rcases g with ⟨kvs, k, e, _, _⟩ | ⟨kvs, k, b, e, _, _, _⟩
  · obtain ⟨_, _, vs, _, dd⟩ := dk_rd I.hok e
    exact dd.typeIs
  · obtain ⟨_, _, xs, _, dd⟩ := dt_rd I.hok e
    exact dd.typeIs
/-- d[y] -/
def tDGet (td ty : TE) : TE := fun σ H Q => td σ H fun x H1 => ty σ H1 fun y H2 => ∃ a v, x = .ref a ∧ DGet H2 a y (some v) ∧ Q v H2
/-- d[y] = v -/
def sDPut (td ty tv : TE) : TS := fun D σ H => tv σ H fun v H1 => td σ H1 fun x H2 => ty σ H2 fun y H3 => ∃ a H4, x = .ref a ∧ DPut H3 a y v H4 ∧ D.nx σ H4
section
variable {X : Cx} {o i e value : Expr} {pos pos' tpos : Pos} {td ty tv : TE}
theorem pe_dget (hu : X.A.units + 1 < cLine) (ho : PE X o td) (hi : PE X i ty) (hs : NoSl i) : PE X (.Subscript o i pos) (tDGet td ty) := by
  intro pins s σ H Q I h
  refine subD_of PySem.F.slot_dict_getitem.lookup hs (thn (ho pins s σ H _ I h) fun u s1 ⟨x, H1, I1, rx, q1⟩ => thn (hi pins s1 σ H1 _ I1 q1) fun iv s2 ⟨y, H2, I2, ry, a, v, ex, g, q2⟩ => ?_)
  subst ex
  obtain rfl : u = Value.ref a := rx
  exact ⟨dict_typeIs I2 g, d_getItem hu I2 g ry fun w' s3 I3 rw' => ⟨v, H2, I3, rw', q2⟩⟩
theorem ps_dput (hu : X.A.units + 1 < cLine) (ho : PE X o td) (hi : PE X i ty) (hv : PE X value tv) (hs : swapsWith value (some (.Subscript o i pos')) pos.line X.env = pure false) :
    PS X (.Assign [.Subscript o i pos'] value pos) (sDPut td ty tv) := by
  intro pins s σ H D I h
  refine wpAny_Assign_Subscript (thn (hv pins s σ H _ I h) fun r s1 ⟨v, H1, I1, rv, q1⟩ => thn (ho pins s1 σ H1 _ I1 q1) fun u s2 ⟨x, H2, I2, rx, q2⟩ => thn (hi pins s2 σ H2 _ I2 q2) fun iv s3 ⟨y, H3, I3, ry, a, H4, ex, g, q3⟩ => ?_) hs
  subst ex
  obtain rfl : u = Value.ref a := rx
  exact d_setItem hu I3 g ry rv fun s4 I4 => ⟨σ, H4, I4, q3⟩
end


/-! ### displays -/
theorem dt_empty {P : Program} {w : World} {H : Hp} (h : Heap) (hb : sysModules < h.objs.size) : ObjOk P w H (h.push { cls := .type "dict", data := .dict #[] }) h.objs.size (.dT []) :=
  ⟨Nat.zero_le _, beq_eq_false_iff_ne.mpr (Ne.symm (Nat.ne_of_lt hb)), [], .nil, _, #[], 0, Heap.get?_push_size _ rfl, ⟨rfl, rfl, rfl⟩, rfl, rfl, List.nodup_nil⟩
def tDNewT : TE := fun _ H Q => ∀ p, H p = none → Q (.ref p) (upd H p (.dT []))
section
variable {X : Cx} {pos : Pos}
theorem pe_dnewT : PE X (.Dict [] [] pos) tDNewT := fun pins s σ H Q I h =>
  wpAny_Dict_empty ⟨.ref s.heap.objs.size, _, I.laid (a := s.heap.objs.size) (o := .dT []) (t' := s.toks) (fun _ _ q => Heap.get?_push_of_some _ q) (Nat.le_refl _) (dt_empty s.heap I.big), rfl, h _ (I.hok.fresh (Nat.le_refl _))⟩
end

/-! ### methods -/
/-- a method call o.m(e) of a built-in, with one argument: what must be seen of the text -/
structure M1 (X : Cx) (o : Expr) (m : Str) (apos : Pos) (e : Expr) (cpos : Pos) : Prop where
  base : attributeBase o m X.env (eval o X.env) = eval o X.env
  few : ((backTo cpos (starEach [e] X.env)).all (fun x => !x.1) && (backToKw cpos (keywordEach [] X.env)).all (fun x => x.1.isSome)
    && decide (([e] : List Expr).length + ([] : List Keyword).length + (if ([] : List Keyword).isEmpty then 0 else 1) < 30)) = true
  line : (apos.endLine == cpos.line) = true
  trees : backTo cpos (starEach [e] X.env) = [(false, eval e X.env)]
structure M2 (X : Cx) (o : Expr) (m : Str) (apos : Pos) (e f : Expr) (cpos : Pos) : Prop where
  base : attributeBase o m X.env (eval o X.env) = eval o X.env
  few : ((backTo cpos (starEach [e, f] X.env)).all (fun x => !x.1) && (backToKw cpos (keywordEach [] X.env)).all (fun x => x.1.isSome)
    && decide (([e, f] : List Expr).length + ([] : List Keyword).length + (if ([] : List Keyword).isEmpty then 0 else 1) < 30)) = true
  line : (apos.endLine == cpos.line) = true
  trees : backTo cpos (starEach [e, f] X.env) = [(false, eval e X.env), (false, eval f X.env)]

/-- a is a dict, whatever its keys -/
def IsD (H : Hp) (a : Addr) : Prop := (∃ kvs, Rd H a (.dK kvs)) ∨ ∃ kvs, Rd H a (.dT kvs)
theorem isD_at {X : Cx} {pins : List (Addr × Obj)} {σ : St} {H : Hp} {s : Shared} {a : Addr} (I : Inv X pins σ H s) (d : IsD H a) :
    s.TypeIs (.ref a) "dict" ∧ (∀ b, Value.ref a = .ref b → ∃ ob, s.heap.get? b = some ob ∧ ob.dict = none) ∧ (a == sysModules) = false := by
  rcases d with ⟨kvs, e⟩ | ⟨kvs, e⟩
  · obtain ⟨_, hd, vs, _, dd⟩ := dk_rd I.hok e
    refine ⟨dd.typeIs, fun b q => ?_, hd⟩
    cases q
    obtain ⟨ob, _, _, h1, h2, _⟩ := dd
    exact ⟨ob, h1, h2.2.1⟩
  · obtain ⟨_, hd, xs, _, dd⟩ := dt_rd I.hok e
    refine ⟨dd.typeIs, fun b q => ?_, hd⟩
    cases q
    obtain ⟨ob, _, _, h1, h2, _⟩ := dd
    exact ⟨ob, h1, h2.2.1⟩

section
variable {X : Cx} {pins : List (Addr × Obj)} {σ : St} {H : Hp} {s : Shared} {a : Addr} {y d : V} {u r : Value} {o : Option V} {A : Around} {E : Value → Shared → Prop}
/-- d.get(y, x) -/
theorem d_get2 {Q : Value → Shared → Prop} (hu : A.units + 1 < cLine) (I : Inv X pins σ H s) (g : DGet H a y o) (ry : RelV y u) (rd : RelV d r) (h : ∀ w' s', Inv X pins σ H s' → RelV (o.getD d) w' → Q w' s') :
    wpAny (model X.prog X.w) A (call (.builtin "dict.get") [.ref a, u, r]) Q E s := by
  rcases g with ⟨kvs, k, e, ey, l⟩ | ⟨kvs, k, b, e, ey, eb, l⟩
  · subst ey
    obtain ⟨z, hd, vs, rel, dd⟩ := dk_rd I.hok e
    refine call_meetsIn PySem.F.slot_dict_get dd.typeIs PySem.F.entry_dict_get (PySem.F.args_dict_get_3 _ _ _) (meets_dict_get_default (mixKind X.prog X.w) a (kV_is ry) hd r) ⟨_, dd.mapOf, h _ _ (I.tok _) ?_⟩
    rw [l]
    exact (rel.val k).getD rd
  · subst ey
    cases (show u = Value.ref b from ry)
    obtain ⟨z, hd, xs, rel, dd⟩ := dt_rd I.hok e
    refine call_meetsIn PySem.F.slot_dict_get dd.typeIs PySem.F.entry_dict_get (PySem.F.args_dict_get_3 _ _ _) (meetsH_dict_get_default (tupleKind (mixKind X.prog X.w)) a b hd r) ⟨tupleKind_room_in1 hu, k, xs, key_of I.hok eb, dd, h _ _ (I.tok _) ?_⟩
    rw [l]
    exact (rel.val k).getD rd
end

def tDGet2 (td ty tx : TE) : TE := fun σ H Q => td σ H fun x H1 => ∃ a, x = .ref a ∧ IsD H1 a ∧ ty σ H1 fun y H2 => tx σ H2 fun z H3 => ∃ o, DGet H3 a y o ∧ Q (o.getD z) H3
section
variable {X : Cx} {o e f : Expr} {apos cpos : Pos} {td ty tx : TE}
theorem pe_dget2 (hu : X.A.units + 1 < cLine) (ho : PE X o td) (he : PE X e ty) (hf : PE X f tx) (m : M2 X o "get" apos e f cpos) : PE X (.Call (.Attribute o "get" apos) [e, f] [] cpos) (tDGet2 td ty tx) := by
  intro pins s σ H Q I h
  refine wpAny_Call_method m.base m.few m.line PySem.F.plainAttrs_dict PySem.F.slot_dict_get PySem.F.type_dict_get (thn (ho pins s σ H _ I h) fun u s1 ⟨x, H1, I1, rx, a, ex, d, q1⟩ => ?_)
  subst ex
  obtain rfl : u = Value.ref a := rx
  obtain ⟨t1, t2, _⟩ := isD_at I1 d
  refine ⟨t1, t2, ?_⟩
  rw [m.trees]
  refine Calls.callWith_builtin rfl (Calls.evalArgs_plain (Calls.spliced_cons (thn (he pins s1 σ H1 _ I1 q1) fun iv s2 ⟨y, H2, I2, ry, q2⟩ =>
    Calls.spliced_cons (thn (hf pins s2 σ H2 _ I2 q2) fun fv s3 ⟨z, H3, I3, rz, ov, g, q3⟩ => Calls.spliced_nil ?_))))
  exact d_get2 hu I3 g ry rz fun w' s4 I4 rw' => ⟨_, H3, I4, rw', q3⟩
end

/-! ### dict(d): a copy -/
section
variable {X : Cx} {pins : List (Addr × Obj)} {σ : St} {H : Hp} {s : Shared} {a : Addr} {kvs : List (Key × V)} {A : Around} {E : Value → Shared → Prop}
end


section
variable {X : Cx} {pins : List (Addr × Obj)} {σ : St} {H : Hp} {s : Shared} {a : Addr} {y : V} {u : Value} {A : Around} {E : Value → Shared → Prop}
end
end L2
namespace L2
open PySem PySem.Spec PyProof.Rows
/-! ### a dict's pairs: keys that differ -/
section
variable {κ : Type} [DecidableEq κ]
theorem valV_not {kvs : List (κ × V)} {k : κ} (h : valV kvs k = none) : ¬ k ∈ kvs.map (·.1) := by
  intro m
  obtain ⟨p, hp, e⟩ := List.mem_map.mp m
  have q : (kvs.any fun kv => decide (kv.1 = k)) = true := List.any_eq_true.mpr ⟨p, hp, decide_eq_true e⟩
  rw [valV_any, h] at q
  exact absurd q (by simp)
end
end L2

set_option Elab.async false
set_option linter.all false
set_option maxRecDepth 100000
set_option maxHeartbeats 2000000
namespace L2
open PySem PySem.Spec PyProof.Rows
/-! ### a dict walked by its keys, whatever they are -/
/-- the dict at d with the entries es -/
def RawD (h : Heap) (d : Addr) (es : Array DictEntry) (ep : Nat) : Prop := ∃ o, h.get? d = some o ∧ o.ExactDict ∧ o.data = .dict es ep
theorem RawD.is {s : Shared} {d : Addr} {es : Array DictEntry} {ep : Nat} (x : RawD s.heap d es ep) : s.TypeIs (.ref d) "dict" := let ⟨o, a, b, _⟩ := x; ⟨o, a, b.1⟩
theorem RawD.lt {h : Heap} {d : Addr} {es : Array DictEntry} {ep : Nat} (x : RawD h d es ep) : d < h.objs.size := let ⟨_, a, _⟩ := x; Heap.lt_size a
theorem RawD.to {h h' : Heap} {d : Addr} {es : Array DictEntry} {ep : Nat} (x : RawD h d es ep) (k : ∀ o, h.get? d = some o → h'.get? d = some o) : RawD h' d es ep := let ⟨o, a, r⟩ := x; ⟨o, k _ a, r⟩
section
variable {prog : Program} {w : World} {A : Around} {E : Value → Shared → Prop} {s : Shared} {d it : Addr} {es : Array DictEntry} {ep : Nat}
theorem iter_raw {Q : Value → Shared → Prop} (lo : (d == sysModules) = false) (x : RawD s.heap d es ep)
    (q : Q (.ref s.heap.objs.size) { s with heap := s.heap.push { cls := .type "dict_keyiterator", data := .fields #[.ref d, .int 0 0, .int es.size 0, .int ep 0] } }) :
    wpAny (model prog w) A (pyIter (.ref d)) Q E s := by
  obtain ⟨o, x1, x2, x3⟩ := id x
  have tt := x.is
  refine wpAny_pyIter_slot tt F.slot_dict_iter (wpAny_call_entry F.slot_dict_iter tt F.entry_dict_iter ?_ (F.args_dict_iter_1 _))
  unfold Builtin.«dict.__iter__» Builtin.Dict.dictSlotNone
  refine wpAny_bind (wpAny_bind (wpAny_notOrdered_dict tt ?_))
  show wpAny (model prog w) _ (pure (Value.ref d)) _ _ s
  refine wpAny_pure (?_ : _)
  show wpAny (model prog w) _ (Builtin.Dict.showsAll d >>= _) _ _ s
  unfold Builtin.Dict.showsAll
  rw [if_neg (fun z => Bool.false_ne_true (lo.symm.trans z))]
  refine wpAny_bind (wpAny_pure (wpAny_bind (wpAny_dictEntries x1 x3 (wpAny_bind (wpAny_dictEpoch x1 x3 ?_)))))
  exact wpAny_bind (wpAny_newObj_type (wpAny_pure ⟨_, rfl, "dict_keyiterator", _, ⟨_, Heap.get?_push_size _ rfl, rfl⟩, F.slot_dict_keyiterator_next.lookup, by simpa [rawInt] using q⟩))
theorem next_raw {i : Nat} {Q : Option Value → Shared → Prop} (y : s.heap.IsKeyIter it d i es.size ep) (x : RawD s.heap d es ep) (hi : i < es.size)
    (q : ∀ h', h'.IsKeyIter it d (i + 1) es.size ep → Heap.SameBut it s.heap h' → Q (some es[i].key) { s with heap := h' }) :
    wpAny (model prog w) A (pyNext (.ref it)) Q E s := by
  obtain ⟨o, y1, y2, y3⟩ := id y
  obtain ⟨od, x1, x2, x3⟩ := id x
  have own : Builtin.Dict_items.ownsTuple "dict_keyiterator" = false := by decide
  unfold pyNext
  refine wpAny_bind (wpAny_attempt (wpAny_callSpecial?_slot (name := Str.ofString "__next__") y.typeIs F.slot_dict_keyiterator_next (wpAny_call_entry F.slot_dict_keyiterator_next y.typeIs F.entry_dict_keyiterator_next ?_ (F.args_dict_keyiterator_next_1 _))))
  refine wpAny_bind (wpAny_pure (wpAny_bind (wpAny_bind ?_)))
  first | refine wpAny_bind (wpAny_typeNameOfWhole_keyiter y.typeIs (wpAny_pure ?_)) | refine wpAny_bind (wpAny_typeNameOf_keyiter y.typeIs (wpAny_pure ?_))
  refine wpAny_bind (wpAny_fieldsOf y1 y3 ?_)
  simp only [own, Bool.false_eq_true, if_false]
  show wpAny (model prog w) _ (if (Value.ref d == Value.none) = true then _ else _) _ _ s
  rw [if_neg (show ¬ (Value.ref d == Value.none) = true from Bool.false_ne_true)]
  refine wpAny_bind (wpAny_pure (wpAny_bind (wpAny_dictEntries x1 x3 ?_)))
  rw [if_neg (by simp)]
  refine wpAny_bind (wpAny_pure (wpAny_bind (wpAny_dictEpoch x1 x3 ?_)))
  rw [if_neg (by simp)]
  refine wpAny_pure (?_ : _)
  simp only [show ¬ ((i : Int) < 0) from by omega, if_false, Int.toNat_natCast, Array.getElem?_eq_getElem hi]
  refine wpAny_bind (?_ : _)
  first | refine wpAny_bind (wpAny_typeNameOfWhole_keyiter y.typeIs (wpAny_pure ?_)) | refine wpAny_bind (wpAny_typeNameOf_keyiter y.typeIs (wpAny_pure ?_))
  refine wpAny_bind (wpAny_isOneOf_keyiter y.typeIs ?_)
  show wpAny (model prog w) _ (setField (.ref it) 1 (rawInt ((i : Int) + 1)) >>= _) _ _ s
  refine wpAny_bind (wpAny_setField y1 y3 (by simp) ?_)
  have y' : (s.heap.update it (Obj.mapFields (·.setIfInBounds 1 (rawInt ((i : Int) + 1))))).IsKeyIter it d (i + 1) es.size ep :=
    ⟨_, Heap.get?_update_self _ y1 (Obj.isFreed_of_fields (Obj.data_mapFields y3 _)), (Obj.cls_mapFields ..).trans y2, by rw [Obj.data_mapFields y3]; simp [rawInt]⟩
  refine wpAny_bind (wpAny_holding (wpAny_bind (wpAny_isOneOf_keyiter (s := { s with heap := s.heap.update it (Obj.mapFields (·.setIfInBounds 1 (rawInt ((i : Int) + 1)))) }) y'.typeIs ?_)))
  show wpAny (model prog w) _ (pure es[i].key) _ _ _
  exact wpAny_pure (wpAny_pure ⟨_, rfl, wpAny_pure (q _ y' (Heap.SameBut.update ..))⟩)
theorem end_raw {i : Nat} {Q : Option Value → Shared → Prop} (hh : A.handled = none) (y : s.heap.IsKeyIter it d i es.size ep) (x : RawD s.heap d es ep) (hi : es.size ≤ i)
    (q : ∀ h', Heap.ExtBut it s.heap h' → Q none { s with heap := h' }) :
    wpAny (model prog w) A (pyNext (.ref it)) Q E s := by
  obtain ⟨o, y1, y2, y3⟩ := id y
  obtain ⟨od, x1, x2, x3⟩ := id x
  have own : Builtin.Dict_items.ownsTuple "dict_keyiterator" = false := by decide
  unfold pyNext
  refine wpAny_bind (wpAny_attempt (wpAny_callSpecial?_slot (name := Str.ofString "__next__") y.typeIs F.slot_dict_keyiterator_next (wpAny_call_entry F.slot_dict_keyiterator_next y.typeIs F.entry_dict_keyiterator_next ?_ (F.args_dict_keyiterator_next_1 _))))
  refine wpAny_bind (wpAny_pure (wpAny_bind (wpAny_bind ?_)))
  first | refine wpAny_bind (wpAny_typeNameOfWhole_keyiter y.typeIs (wpAny_pure ?_)) | refine wpAny_bind (wpAny_typeNameOf_keyiter y.typeIs (wpAny_pure ?_))
  refine wpAny_bind (wpAny_fieldsOf y1 y3 ?_)
  simp only [own, Bool.false_eq_true, if_false]
  show wpAny (model prog w) _ (if (Value.ref d == Value.none) = true then _ else _) _ _ s
  rw [if_neg (show ¬ (Value.ref d == Value.none) = true from Bool.false_ne_true)]
  refine wpAny_bind (wpAny_pure (wpAny_bind (wpAny_dictEntries x1 x3 ?_)))
  rw [if_neg (by simp)]
  refine wpAny_bind (wpAny_pure (wpAny_bind (wpAny_dictEpoch x1 x3 ?_)))
  rw [if_neg (by simp)]
  refine wpAny_pure (?_ : _)
  simp only [show ¬ ((i : Int) < 0) from by omega, if_false, Int.toNat_natCast, Array.getElem?_eq_none hi]
  refine wpAny_bind (?_ : _)
  first | refine wpAny_bind (wpAny_typeNameOfWhole_keyiter y.typeIs (wpAny_pure ?_)) | refine wpAny_bind (wpAny_typeNameOf_keyiter y.typeIs (wpAny_pure ?_))
  show wpAny (model prog w) _ (setField (.ref it) 0 .none >>= _) _ _ s
  refine wpAny_bind (wpAny_setField y1 y3 (by simp) ?_)
  show wpAny (model prog w) _ (newExc (.type "StopIteration") [] >>= _) _ _ _
  refine wpAny_bind (?_ : _)
  unfold newExc newTuple
  refine wpAny_bind (wpAny_newObj_type ?_ (Nat.zero_le _))
  refine wpAny_bind (m := firstArgMember _ _) (wpAny_of_eq (a := Value.none) (by first | rfl | (unfold firstArgMember; rfl)) ?_)
  refine wpAny_newObj_type ?_ (by size_fits)
  unfold raiseNew
  refine wpAny_bind (wpAny_handled ?_)
  have hn : A.in1.handled = none := hh
  rw [hn]
  refine wpAny_bind (wpAny_pure (wpAny_throw (?_ : _)))
  refine wpAny_bind (wpAny_isInstance (b := true) (T := "StopIteration") ⟨_, Heap.get?_push_size _ rfl, rfl⟩ isSubtype_stop ?_)
  exact wpAny_pure (q _ (((Heap.SameBut.update ..).extBut.push _).push _))
theorem walk_raw (hh : A.handled = none) (I : Addr) (ne : d ≠ I) :
    Walks prog w A I [I, d] [I] es.size (fun i v => ∃ e, es[i]? = some e ∧ v = e.key) (fun i h => h.IsKeyIter I d i es.size ep ∧ RawD h d es ep) where
  sub := by intro b z; simp at z; simp [z]
  frame := fun i h h' st k => ⟨st.1.at (k I (by simp)), st.2.to (k d (by simp))⟩
  item := fun i s Q E hi st q => next_raw st.1 st.2 hi fun h' y' hs => q _ h' s.toks ⟨es[i], by simp [hi], rfl⟩ ⟨y', st.2.to fun o e => hs.extBut d o ne e⟩ fun b o hb e => hs.extBut b o (fun z => hb (by simp [z])) e
  done := fun s Q E st q => end_raw hh st.1 st.2 (Nat.le_refl _) fun h' he => q h' s.toks fun b o hb e => he b o (fun z => hb (by simp [z])) e
  self := fun i s Q E st q => wpAny_pyIter_keyiter st.1 q
theorem src_raw (lo : (d == sysModules) = false) : PySem.W.KdlSrc prog w "dict" d d es.size (fun i v => ∃ e, es[i]? = some e ∧ v = e.key) (fun h => RawD h d es ep) where
  type := fun s x => x.is
  there := fun h x => ⟨x.lt, x.lt⟩
  keep := fun h h' x k => x.to fun o e => k d (Or.inl rfl) o e
  notList := rfl
  notTuple := rfl
  hint := fun A E s Q x q => PySem.W.kdl_hint_dict x.is q
  iter := fun A s hh x => ⟨_, _, (fun E Q q => iter_raw lo x q), walk_raw hh _ (Nat.ne_of_lt x.lt), ⟨⟨_, Heap.get?_push_size _ rfl, rfl, rfl⟩, x.to fun o e => Heap.get?_push_of_some _ e⟩⟩
end
end L2

set_option Elab.async false
set_option linter.all false
set_option maxRecDepth 100000
set_option maxHeartbeats 2000000
namespace L2
open PySem PySem.Spec PyProof.Rows PySem.W
/-! ### sorting by an order that is known: what is asked, what comes out -/
section
variable {lt : Nat → Nat → Bool} {n : Nat}
def KW {α : Type} (lt : Nat → Nat → Bool) (n : Nat) (Q : α → Prop) : KasT α → Prop
  | .ret a => Q a
  | .ask i j k => i < n ∧ j < n ∧ KW lt n Q (k (lt i j))
theorem KW.bd {α β : Type} {f : α → KasT β} {Q : β → Prop} : ∀ {t : KasT α}, KW lt n (fun a => KW lt n Q (f a)) t → KW lt n Q (t.bind f)
  | .ret _, h => h
  | .ask _ _ k, ⟨h1, h2, h3⟩ => ⟨h1, h2, KW.bd (t := k _) h3⟩
theorem KW.mono {α : Type} {Q Q' : α → Prop} (hq : ∀ a, Q a → Q' a) : ∀ {t : KasT α}, KW lt n Q t → KW lt n Q' t
  | .ret a, h => hq a h
  | .ask _ _ k, ⟨h1, h2, h3⟩ => ⟨h1, h2, KW.mono hq (t := k _) h3⟩
theorem KW.wp {α : Type} {cmp : Nat → Nat → (Bool → Shared → Prop) → Shared → Prop} {s : Shared} {Q : α → Prop} (hc : ∀ i j C, i < n → j < n → C (lt i j) s → cmp i j C s) : ∀ {t : KasT α}, KW lt n Q t → t.kasWp cmp (fun a s' => s' = s ∧ Q a) s
  | .ret a, h => ⟨rfl, h⟩
  | .ask i j k, ⟨h1, h2, h3⟩ => hc i j _ h1 h2 (KW.wp hc (t := k _) h3)
def Pm (n : Nat) (p : Array Nat) : Prop := p.toList.Perm (List.range n)
theorem Pm.low {p : Array Nat} (h : Pm n p) (hn : 0 < n) (i : Nat) : p.getD i 0 < n := by
  unfold Array.getD
  split
  · rename_i hi
    exact List.mem_range.mp (h.mem_iff.mp (Array.getElem_mem_toList hi))
  · exact hn
theorem Pm.rev {p : Array Nat} (h : Pm n p) (i j : Nat) : Pm n (kas_rev p i j) := (Array.perm_iff_toList_perm.mp (mirror_perm p i j _)).trans h
theorem Pm.bub {p : Array Nat} (h : Pm n p) (i j : Nat) : Pm n (bubble p i j) := (Array.perm_iff_toList_perm.mp (bubble_perm p i j)).trans h
theorem kw_asc (hn : 0 < n) {p : Array Nat} (h : Pm n p) : ∀ f m, KW lt n (fun _ => True) (kas_asc p f m)
  | 0, _ => trivial
  | f + 1, m => by
    refine ⟨h.low hn _, h.low hn _, ?_⟩
    dsimp only
    split
    · trivial
    · exact kw_asc hn h f (m + 1)
theorem kw_desc (hn : 0 < n) : ∀ f (p : Array Nat) m q, Pm n p → KW lt n (fun r => Pm n r.1) (kas_desc f p m q)
  | 0, p, m, q, h => h
  | f + 1, p, m, q, h => by
    refine ⟨h.low hn _, h.low hn _, ?_⟩
    dsimp only
    split
    · split
      · exact kw_desc hn f _ _ _ (h.rev _ _)
      · exact kw_desc hn f _ _ _ h
    · refine ⟨h.low hn _, h.low hn _, ?_⟩
      dsimp only
      split
      · exact h
      · exact kw_desc hn f _ _ _ h
theorem kw_tail (hn : 0 < n) (m r : Nat) {p : Array Nat} (h : Pm n p) : KW lt n (fun x => Pm n x.2) (kas_tail3 m r p) :=
  KW.bd (KW.mono (fun _ _ => h.rev 0 m) (kw_asc hn (h.rev 0 m) _ _))
theorem kw_part (hn : 0 < n) (m r : Nat) {p : Array Nat} (h : Pm n p) : KW lt n (fun x => Pm n x.2) (kas_descPart m r p) := by
  refine KW.bd (KW.mono (fun a ha => ?_) (kw_desc hn _ p _ 0 h))
  split
  · exact kw_tail hn _ _ (Pm.rev ha _ _)
  · exact kw_tail hn _ _ ha
theorem kw_count (hn : 0 < n) (r : Nat) {p : Array Nat} (h : Pm n p) : KW lt n (fun x => Pm n x.2) (kas_count r p) := by
  refine KW.bd (KW.mono (fun a _ => ?_) (kw_asc hn h _ 1))
  split
  · exact h
  · split
    · refine ⟨h.low hn _, h.low hn _, ?_⟩
      dsimp only
      split
      · exact h
      · exact kw_part hn _ _ (h.rev _ _)
    · exact kw_part hn _ _ h
theorem kw_place (hn : 0 < n) {p : Array Nat} (h : Pm n p) (k : Nat) : ∀ f l r, KW lt n (fun _ => True) (kas_place p k f l r)
  | 0, _, _ => trivial
  | f + 1, l, r => by
    unfold kas_place
    split
    · trivial
    · refine ⟨h.low hn _, h.low hn _, ?_⟩
      dsimp only
      split
      · exact kw_place hn h k f _ _
      · exact kw_place hn h k f _ _
theorem kw_bin (hn : 0 < n) : ∀ f (p : Array Nat) k, Pm n p → KW lt n (Pm n) (kas_bin f p k)
  | 0, p, k, h => h
  | f + 1, p, k, h => KW.bd (KW.mono (fun l _ => kw_bin hn f _ _ (h.bub _ _)) (kw_place hn h k k 0 k))
theorem kw_sort (hn : 0 < n) : KW lt n (Pm n) (kas_sort n) := by
  have h0 : Pm n (List.toArray (List.range n)) := List.Perm.refl _
  refine KW.bd (KW.mono (fun a ha => ?_) (kw_count hn n h0))
  split
  · exact kw_bin hn _ _ _ ha
  · exact ha
end
/-! ### list.sort -/
section
variable {prog : Program} {w : World} {A : Around} {E : Value → Shared → Prop} {s : Shared}
/-- the heap while a list is sorted -/
def midH (h : Heap) (a : Addr) (vs : List Value) : Heap := ((h.update a (Obj.mapSeq fun _ => #[])).push (seqObj "tuple" vs.toArray 0)).push (seqObj "list" #[] 0)
theorem mid_old {h : Heap} {a b : Addr} {vs : List Value} {o : Obj} (ne : b ≠ a) (e : h.get? b = some o) : (midH h a vs).get? b = some o :=
  Heap.get?_push_of_some _ (Heap.get?_push_of_some _ ((Heap.get?_update_ne _ _ _ _ ne).trans e))
theorem sorted_old {h : Heap} {a b : Addr} {vs : List Value} {out : Array Value} {o : Obj} (ne : b ≠ a) (e : h.get? b = some o) : (sortedHeap h a vs out).get? b = some o :=
  (Heap.get?_update_ne _ _ _ _ ne).trans (mid_old ne e)
theorem mid_at {h : Heap} {a : Addr} {vs xs : List Value} {n : Nat} (e : h.get? a = some (seqObj "list" xs.toArray n)) : ∃ c, (midH h a vs).get? a = some (seqObj "list" #[] c) ∧ (h.update a (Obj.mapSeq fun _ => #[])).get? a = some (seqObj "list" #[] c) :=
  ⟨_, Heap.get?_push_of_some _ (Heap.get?_push_of_some _ (get?_update_seq e fun _ => #[])), get?_update_seq e fun _ => #[]⟩
theorem sorted_at {h : Heap} {a : Addr} {vs xs : List Value} {n : Nat} {out : Array Value} (e : h.get? a = some (seqObj "list" xs.toArray n)) : ∃ c, (sortedHeap h a vs out).get? a = some (seqObj "list" out c) := by
  obtain ⟨c, h1, _⟩ := mid_at (vs := vs) e
  exact ⟨_, get?_update_seq h1 fun _ => out⟩
theorem sort_kw {a : Addr} {vs : List Value} {n : Nat} {κ : SortKind} {lt : Nat → Nat → Bool} {R : Array Nat → Prop} {P : PySem.Fin → Shared → Prop} (ho : s.heap.get? a = some (seqObj "list" vs.toArray n)) (h2 : 2 ≤ vs.length) (h64 : vs.length < 64)
    (hk : ∀ Q : SortKind → Shared → Prop, Q κ { s with heap := midH s.heap a vs } → wpAny (model prog w) A (keyKind' vs.toArray) Q E { s with heap := midH s.heap a vs })
    (hc : ∀ i j (C : Bool → Shared → Prop), i < vs.length → j < vs.length → C (lt i j) { s with heap := midH s.heap a vs } → wpAny (model prog w) A (keyLt' κ (vs.getD i Value.none) (vs.getD j Value.none)) C (fun _ _ => False) { s with heap := midH s.heap a vs })
    (kw : KW lt vs.length R (kas_sort vs.length))
    (h : ∀ p : Array Nat, p.size = vs.length → R p → P (.done (.ret .none)) { s with heap := sortedHeap s.heap a vs (List.toArray (p.toList.map fun i => vs.getD i Value.none)) }) :
    wpAny (model prog w) A (Builtin.«list.sort» ⟨[.ref a], []⟩) P E s := by
  obtain ⟨c, m1, m2⟩ := mid_at (vs := vs) ho
  have zs : ¬ vs.toArray.size < 2 := by rw [List.size_toArray]; omega
  have zl : vs.length ≤ sizeLine := by rw [sizeLine_eq]; omega
  rw [list_sort_plain]
  refine wpAny_bind (listItems_at ho rfl (wpAny_bind (listUpdate_at ho rfl ?_ (by rw [List.size_toArray]; exact zl) (Nat.zero_le _))))
  refine wpAny_bind (seqEpoch_at m2 rfl (wpAny_bind (wpAny_newTuple ?_ zl)))
  refine wpAny_bind (wpAny_newList ?_ (Nat.zero_le _))
  refine wpAny_holding (?_ : _)
  show wpAny (model prog w) A _ P E { s with heap := midH s.heap a vs }
  dsimp only
  rw [if_neg zs, if_neg zs]
  refine wpAny_bind (hk _ ?_)
  have run := kat_run (prog := prog) (w := w) (A := A) (E := E) (κ := κ) (ks := vs) (vs := vs) (s := { s with heap := midH s.heap a vs }) (Q := fun st' s' => s' = { s with heap := midH s.heap a vs } ∧ ∃ p : Array Nat, p.size = vs.length ∧ R p ∧ arrOf st' = p.map (kas_item (vs.toArray.zip vs.toArray)) ∧ failedOf st' = none)
    rfl h2 h64 (fun p st' s' b1 b2 b3 b4 => ⟨b4.1, p, b1, b4.2, b2, b3⟩) (KW.wp (cmp := kas_ask prog w A κ vs) (fun i j C li lj hC => hc i j C li lj hC) kw)
  refine wpAny_bind (wpAny_mono run ?_ fun _ _ e => e)
  rintro ⟨⟨⟩, st'⟩ s' ⟨rfl, p, pz, pR, har, hf⟩
  have out := kat_snds rfl har
  dsimp only
  rw [out]
  refine wpAny_bind (seqEpoch_at m1 rfl (wpAny_bind (listUpdate_at m1 rfl ?_ (Nat.zero_le _) ?_)))
  · rw [hf]
    simp only [bne_self_eq_false, Bool.false_eq_true, if_false]
    exact wpAny_pure (h p pz pR)
  · rw [List.size_toArray, List.length_map, Array.length_toList, pz]
    omega
theorem sort_few {a : Addr} {vs : List Value} {n : Nat} {P : PySem.Fin → Shared → Prop} (ho : s.heap.get? a = some (seqObj "list" vs.toArray n)) (h2 : vs.length < 2)
    (h : P (.done (.ret .none)) { s with heap := sortedHeap s.heap a vs vs.toArray }) : wpAny (model prog w) A (Builtin.«list.sort» ⟨[.ref a], []⟩) P E s := by
  obtain ⟨c, m1, m2⟩ := mid_at (vs := vs) ho
  have zs : vs.toArray.size < 2 := by rw [List.size_toArray]; omega
  have zl : vs.length ≤ sizeLine := by rw [sizeLine_eq]; omega
  rw [list_sort_plain]
  refine wpAny_bind (listItems_at ho rfl (wpAny_bind (listUpdate_at ho rfl ?_ (by rw [List.size_toArray]; exact zl) (Nat.zero_le _))))
  refine wpAny_bind (seqEpoch_at m2 rfl (wpAny_bind (wpAny_newTuple ?_ zl)))
  refine wpAny_bind (wpAny_newList ?_ (Nat.zero_le _))
  refine wpAny_holding (?_ : _)
  show wpAny (model prog w) A _ P E { s with heap := midH s.heap a vs }
  dsimp only
  rw [if_pos zs, if_pos zs]
  refine wpAny_bind (wpAny_pure (?_ : _))
  rw [StateT.run_pure]
  refine wpAny_bind (wpAny_pure (?_ : _))
  dsimp only
  have e : (vs.toArray.zip vs.toArray).map (·.2) = vs.toArray := by
    apply Array.toList_inj.mp
    simp [List.map_snd_zip]
  show wpAny (model prog w) A (seqEpoch a >>= _) P E _
  refine wpAny_bind (seqEpoch_at m1 rfl (wpAny_bind (listUpdate_at m1 rfl ?_ (Nat.zero_le _) ?_)))
  · simp only [bne_self_eq_false, Bool.false_eq_true, if_false]
    show wpAny (model prog w) A (ret Value.none) P E { s with heap := sortedHeap s.heap a vs ((vs.toArray.zip vs.toArray).map (·.2)) }
    rw [e]
    exact wpAny_pure h
  · show ((vs.toArray.zip vs.toArray).map (·.2)).size ≤ _
    rw [e, List.size_toArray]; omega
end
end L2

set_option Elab.async false
set_option linter.all false
set_option maxRecDepth 100000
set_option maxHeartbeats 2000000
namespace L2
open PySem PySem.Spec PyProof.Rows PySem.W
/-! ### sorted(d), of a dict whose keys are pairs of ints -/
/-- the order of pairs -/
def ltP (x y : Int × Int) : Bool := if (x.1 == y.1) = true then (if (x.2 == y.2) = true then false else decide (x.2 < y.2)) else decide (x.1 < y.1)
/-- a tuple of two ints -/
def TupI (h : Heap) (v : Value) (x : Int × Int) : Prop := ∃ a o t u n, v = .ref a ∧ h.get? a = some o ∧ o.cls = .type "tuple" ∧ o.data = .seq #[.int x.1 t, .int x.2 u] n
theorem TupI.to {h h' : Heap} {v : Value} {x : Int × Int} (z : TupI h v x) (k : ∀ b o, h.get? b = some o → h'.get? b = some o) : TupI h' v x :=
  let ⟨a, o, t, u, n, e, e1, r⟩ := z; ⟨a, o, t, u, n, e, k _ _ e1, r⟩
section
variable {prog : Program} {w : World} {A : Around} {E : Value → Shared → Prop} {s : Shared}
theorem lt_tupI {v v' : Value} {x y : Int × Int} {C : Bool → Shared → Prop} (hv : TupI s.heap v x) (hv' : TupI s.heap v' y) (h : C (ltP x y) s) : wpAny (model prog w) A (keyLt' (tuples' true) v v') C E s := by
  obtain ⟨a, o, t, u, n, rfl, a1, a2, a3⟩ := hv
  obtain ⟨b, o', t', u', n', rfl, b1, b2, b3⟩ := hv'
  refine kat_lt a1 a3 b1 b3 ?_
  show KatLex prog w A true false C [(.int x.1 t, .int y.1 t'), (.int x.2 u, .int y.2 u')] 0 s
  unfold ltP at h
  refine kat_cons (wpAny_eqBool_int (kat_go (fun e => ?_) fun e => ?_))
  · rw [if_pos e] at h
    refine kat_yes (kat_cons (wpAny_eqBool_int (kat_go (fun e2 => ?_) fun e2 => ?_)))
    · rw [if_pos e2] at h
      exact kat_yes (kat_nil h)
    · rw [if_neg (by rw [e2]; exact Bool.false_ne_true)] at h
      exact kat_no (kat_one _ _ (wpAny_lt_int h))
  · rw [if_neg (by rw [e]; exact Bool.false_ne_true)] at h
    exact kat_no (oneLt_int h)
theorem tups_of {h : Heap} : ∀ {vs : List Value}, (∀ v ∈ vs, ∃ x, TupI h v x) → ∃ fs, KatTups h vs fs ∧ fs.length = vs.length ∧ ∀ f ∈ fs, ∃ n t, f = Value.int n t
  | [], _ => ⟨[], .nil, rfl, fun _ z => nomatch z⟩
  | v :: vs, H => by
    obtain ⟨fs, a1, a2, a3⟩ := tups_of (vs := vs) fun u hu => H u (.tail _ hu)
    obtain ⟨x, a, o, t, u, n, rfl, b1, b2, b3⟩ := H v (.head _)
    refine ⟨.int x.1 t :: fs, KatTups.cons b1 b2 b3 rfl a1, congrArg (· + 1) a2, fun f hf => ?_⟩
    rcases List.mem_cons.mp hf with rfl | hf
    · exact ⟨_, _, rfl⟩
    · exact a3 f hf
theorem kind_tupI {vs : List Value} {Q : SortKind → Shared → Prop} (H : ∀ v ∈ vs, ∃ x, TupI s.heap v x) (h2 : 2 ≤ vs.length) (h : Q (tuples' true) s) : wpAny (model prog w) A (keyKind' vs.toArray) Q E s := by
  obtain ⟨fs, a1, a2, a3⟩ := tups_of H
  refine kat_kind (T := .type "int") a1 (by omega) (fun v hv => ?_) rfl h
  obtain ⟨n, t, rfl⟩ := a3 v hv
  exact Looks.of_pure rfl
/-- the sort itself, the list new at D -/
theorem sort_tupI {D : Addr} {vs : List Value} {xs : Nat → Int × Int} {P : PySem.Fin → Shared → Prop} (ho : s.heap.get? D = some (seqObj "list" vs.toArray 0)) (h64 : vs.length < 64)
    (H : ∀ i, i < vs.length → TupI s.heap (vs.getD i Value.none) (xs i))
    (h : ∀ (p : List Nat) (c : Nat) (hF : Heap), p.Perm (List.range vs.length) → (∀ b o, b ≠ D → s.heap.get? b = some o → hF.get? b = some o) → hF.get? D = some (seqObj "list" (List.toArray (p.map fun i => vs.getD i Value.none)) c) → P (.done (.ret .none)) { s with heap := hF }) :
    wpAny (model prog w) A (Builtin.«list.sort» ⟨[.ref D], []⟩) P E s := by
  by_cases h2 : vs.length < 2
  · refine sort_few ho h2 ?_
    obtain ⟨c, hc⟩ := sorted_at (vs := vs) (out := vs.toArray) ho
    refine h (List.range vs.length) c _ (List.Perm.refl _) (fun b o ne e => sorted_old ne e) ?_
    rw [hc]
    have e : (List.range vs.length).map (fun i => vs.getD i Value.none) = vs := by
      apply List.ext_getElem (by simp)
      intro i h1 h2
      simp at h1 h2
      simp [h2]
    rw [e]
  · have old : ∀ v, v ∈ vs → ∃ i, i < vs.length ∧ vs.getD i Value.none = v := fun v hv => by
      obtain ⟨i, hi, e⟩ := List.mem_iff_getElem.mp hv
      exact ⟨i, hi, by simp [hi, e]⟩
    have nD : ∀ {v : Value} {x : Int × Int}, TupI s.heap v x → TupI (midH s.heap D vs) v x := fun {v x} z => by
      obtain ⟨a, o, t, u, n, e, e1, e2, e3⟩ := z
      refine ⟨a, o, t, u, n, e, mid_old (fun q => ?_) e1, e2, e3⟩
      rw [q, ho] at e1
      cases e1
      have e2' : Value.type "list" = Value.type "tuple" := e2
      exact absurd e2' (by decide)
    refine sort_kw (κ := tuples' true) (lt := fun i j => ltP (xs i) (xs j)) ho (by omega) h64 (fun Q q => kind_tupI (s := { s with heap := midH s.heap D vs }) (fun v hv => ?_) (by omega) q) (fun i j C li lj q => lt_tupI (s := { s with heap := midH s.heap D vs }) (nD (H i li)) (nD (H j lj)) q) (kw_sort (by omega)) fun p pz pR => ?_
    · obtain ⟨i, hi, rfl⟩ := old v hv
      exact ⟨_, nD (H i hi)⟩
    · obtain ⟨c, hc⟩ := sorted_at (vs := vs) (out := List.toArray (p.toList.map fun i => vs.getD i Value.none)) ho
      exact h p.toList c _ pR (fun b o ne e => sorted_old ne e) hc
theorem sorted_raw {d : Addr} {es : Array DictEntry} {ep : Nat} {xs : Nat → Int × Int} {Q : Value → Shared → Prop} (lo : (d == sysModules) = false) (hh : A.handled = none) (x : RawD s.heap d es ep) (h64 : es.size < 64)
    (H : ∀ i e, es[i]? = some e → TupI s.heap e.key (xs i))
    (h : ∀ (h1 hF : Heap) (tk c : Nat) (p : List Nat) (vs : List Value), (∀ b o, s.heap.get? b = some o → h1.get? b = some o) → (∀ b o, h1.get? b = some o → hF.get? b = some o) → p.Perm (List.range es.size) → vs = es.toList.map (·.key) →
      hF.get? h1.objs.size = some (seqObj "list" (List.toArray (p.map fun i => vs.getD i Value.none)) c) → Q (.ref h1.objs.size) { s with heap := hF, toks := tk }) :
    wpAny (model prog w) A (call (.builtin "sorted") [.ref d]) Q E s := by
  have zl : es.size ≤ sizeLine := by rw [sizeLine_eq]; omega
  refine Calls.call_function_entry kind_sorted plain_sorted entry_sorted (args_sorted1 _) ?_
  unfold Builtin.«sorted»
  refine wpAny_bind (m := checkCount "sorted" 1 1 _) (wpAny_pure (wpAny_bind (kdu_collect (A := A.in1) (src_raw lo) hh x zl fun h1 tk acc k1 it => ?_)))
  have len : acc.toList.length = es.size := by rw [Array.length_toList]; exact it.1
  have ev : acc.toList = es.toList.map (·.key) := by
    apply List.ext_getElem (by rw [len, List.length_map, Array.length_toList])
    intro i a1 a2
    rw [Array.length_toList] at a1
    obtain ⟨e, e1, e2⟩ := it.2 i acc[i] (by simp [a1])
    simp only [Array.getElem_toList, List.getElem_map]
    rw [e2]
    obtain ⟨q1, q2⟩ := Array.getElem?_eq_some_iff.mp e1
    rw [← q2]
  refine wpAny_bind (wpAny_newList ?_ (by rw [len]; exact zl))
  have hD : (h1.push (seqObj "list" acc.toList.toArray 0)).get? h1.objs.size = some (seqObj "list" acc.toList.toArray 0) := Heap.get?_push_size _ rfl
  show wpAny (model prog w) _ _ _ _ { s with heap := h1.push (seqObj "list" acc.toList.toArray 0), toks := tk }
  refine wpAny_bind (wpAny_holding (wpAny_call_entry slot_list_sort ⟨_, hD, rfl⟩ entry_list_sort (sort_tupI (xs := xs) (s := { s with heap := h1.push (seqObj "list" acc.toList.toArray 0), toks := tk }) hD (by rw [len]; exact h64) (fun i hi => ?_) fun p c hF pp kF eF => ⟨_, rfl, ?_⟩) (args_list_sort _)))
  · rw [len] at hi
    have z := (H i es[i] (by simp [hi])).to k1
    have e : acc.toList.getD i Value.none = es[i].key := by rw [ev]; simp [hi]
    rw [e]
    exact z.to fun b o q => Heap.get?_push_of_some _ q
  · refine wpAny_pure ⟨_, rfl, h h1 hF tk c p acc.toList k1 (fun b o e => kF b o (Nat.ne_of_lt (Heap.lt_size e)) (Heap.get?_push_of_some _ e)) (by rw [← len]; exact pp) ev eF⟩
end
end L2

set_option Elab.async false
set_option linter.all false
set_option maxRecDepth 100000
set_option maxHeartbeats 2000000
namespace L2
open PySem PySem.Spec PyProof.Rows PySem.W
/-! ### dicts with tuples for keys, read by computing -/
section
variable {X : Cx} {K : PySem.W.Frag}
/- {} -/
@[irreducible] def rDN (H : Hp) (Q : VK) : Prop := ∀ p H', H p = none → Same H H' → H' p = some (.dT []) → Q (.ref p) H'
def tDN : TE := fun _ H Q => rDN H Q
theorem peDNew {pos : Pos} : PE X (.Dict [] [] pos) tDN := fun pins s σ H Q I h => by
  unfold tDN rDN at h
  exact pe_dnewT (pos := pos) pins s σ H Q I fun p hp => h p _ hp (Same.upd hp) upd_same
theorem dn_rd {H : Hp} {Q : VK} (q : ∀ p H', H p = none → Same H H' → H' p = some (.dT []) → Q (.ref p) H') : rDN H Q := by unfold rDN; exact q
/- d[k] -/
@[irreducible] def rDG (a : Addr) (y : V) (H : Hp) (Q : VK) : Prop := ∃ v, DGet H a y (some v) ∧ Q v H
def rDGV (x y : V) (H : Hp) (Q : VK) : Prop := match x with
  | .ref a => rDG a y H Q
  | _ => False
def tDG (td ty : TE) : TE := fun σ H Q => td σ H fun x H1 => ty σ H1 fun y H2 => rDGV x y H2 Q
theorem tDG_eq (td ty : TE) : tDG td ty = tDGet td ty := by
  funext σ H Q
  unfold tDG tDGet
  congr 1; funext x H1; congr 1; funext y H2
  unfold rDGV
  apply propext
  cases x <;> first
    | (simp only [V.ref.injEq]; unfold rDG; exact ⟨fun ⟨v, g, q⟩ => ⟨_, v, rfl, g, q⟩, fun ⟨a, v, e, g, q⟩ => ⟨v, e ▸ g, q⟩⟩)
    | exact ⟨fun z => z.elim, fun ⟨a, v, e, _⟩ => nomatch e⟩
theorem peDGet {o i : Expr} {td ty : TE} {pos : Pos} (hu : X.A.units + 40 < cLine) (ho : PE X o td) (hi : PE X i ty) (hs : NoSl i := by exact fun _ _ => rfl) : PE X (.Subscript o i pos) (tDG td ty) := tDG_eq td ty ▸ pe_dget (by omega) ho hi hs
theorem dgT_rd {a b : Addr} {H : Hp} {Q : VK} {kvs : List (List Key × V)} {k : List Key} {v : V} (e : H a = some (.dT kvs)) (eb : H b = some (.tup (k.map kV))) (ev : valV kvs k = some v) (q : Q v H) : rDG a (.ref b) H Q := by
  unfold rDG
  exact ⟨v, ev ▸ DGet.t e eb, q⟩
/- d.get(k, z) -/
@[irreducible] def rIsD (a : Addr) (H : Hp) (P : Prop) : Prop := IsD H a ∧ P
@[irreducible] def rDG2 (a : Addr) (y z : V) (H : Hp) (Q : VK) : Prop := ∃ o, DGet H a y o ∧ Q (o.getD z) H
def rDG2V (x : V) (H : Hp) (P : Addr → Prop) : Prop := match x with
  | .ref a => rIsD a H (P a)
  | _ => False
def tDG2 (td ty tx : TE) : TE := fun σ H Q => td σ H fun x H1 => rDG2V x H1 fun a => ty σ H1 fun y H2 => tx σ H2 fun z H3 => rDG2 a y z H3 Q
theorem tDG2_eq (td ty tx : TE) : tDG2 td ty tx = tDGet2 td ty tx := by
  funext σ H Q
  unfold tDG2 tDGet2
  congr 1; funext x H1
  unfold rDG2V rIsD rDG2
  apply propext
  cases x <;> first
    | (simp only [V.ref.injEq]; exact ⟨fun z => ⟨_, rfl, z⟩, fun ⟨a, e, z⟩ => e ▸ z⟩)
    | exact ⟨fun z => z.elim, fun ⟨a, e, _⟩ => nomatch e⟩
theorem peM_get2 {o e f : Expr} {td ty tx : TE} {apos cpos : Pos} (hu : X.A.units + 40 < cLine) (ho : PE X o td) (he : PE X e ty) (hf : PE X f tx)
    (m1 : attributeBase o "get" X.env (eval o X.env) = eval o X.env := by rfl)
    (m2 : ((backTo cpos (starEach [e, f] X.env)).all (fun x => !x.1) && (backToKw cpos (keywordEach [] X.env)).all (fun x => x.1.isSome) && decide (([e, f] : List Expr).length + ([] : List Keyword).length + (if ([] : List Keyword).isEmpty then 0 else 1) < 30)) = true := by rfl)
    (m3 : (apos.endLine == cpos.line) = true := by rfl) (m4 : backTo cpos (starEach [e, f] X.env) = [(false, eval e X.env), (false, eval f X.env)] := by rfl) : PE X (.Call (.Attribute o "get" apos) [e, f] [] cpos) (tDG2 td ty tx) :=
  tDG2_eq td ty tx ▸ pe_dget2 (by omega) ho he hf ⟨m1, m2, m3, m4⟩
theorem isdT_rd {a : Addr} {H : Hp} {P : Prop} {kvs : List (List Key × V)} (e : H a = some (.dT kvs)) (p : P) : rIsD a H P := by unfold rIsD; exact ⟨.inr ⟨kvs, .inl e⟩, p⟩
theorem dg2T_rd {a b : Addr} {z : V} {H : Hp} {Q : VK} {kvs : List (List Key × V)} {k : List Key} (e : H a = some (.dT kvs)) (eb : H b = some (.tup (k.map kV))) (q : Q ((valV kvs k).getD z) H) : rDG2 a (.ref b) z H Q := by
  unfold rDG2
  exact ⟨_, DGet.t e eb, q⟩
/- d[k] = v -/
@[irreducible] def rDP (a : Addr) (y v : V) (H : Hp) (N : Hp → Prop) : Prop := ∃ H', DPut H a y v H' ∧ N H'
def rDPV (x y v : V) (H : Hp) (N : Hp → Prop) : Prop := match x with
  | .ref a => rDP a y v H N
  | _ => False
def sDP (td ty tv : TE) : TS := fun D σ H => tv σ H fun v H1 => td σ H1 fun x H2 => ty σ H2 fun y H3 => rDPV x y v H3 (D.nx σ)
theorem sDP_eq (td ty tv : TE) : sDP td ty tv = sDPut td ty tv := by
  funext D σ H
  unfold sDP sDPut
  congr 1; funext v H1; congr 1; funext x H2; congr 1; funext y H3
  unfold rDPV
  apply propext
  cases x <;> first
    | (simp only [V.ref.injEq]; unfold rDP; exact ⟨fun ⟨H', g, q⟩ => ⟨_, H', rfl, g, q⟩, fun ⟨a, H', e, g, q⟩ => ⟨H', e ▸ g, q⟩⟩)
    | exact ⟨fun z => z.elim, fun ⟨a, v, e, _⟩ => nomatch e⟩
theorem psDPut {o i value : Expr} {td ty tv : TE} {pos pos' : Pos} (hu : X.A.units + 40 < cLine) (ho : PE X o td) (hi : PE X i ty) (hv : PE X value tv) (hs : swapsWith value (some (.Subscript o i pos')) pos.line X.env = pure false := by rfl) :
    PS X (.Assign [.Subscript o i pos'] value pos) (sDP td ty tv) := sDP_eq td ty tv ▸ ps_dput (by omega) ho hi hv hs
theorem dpT_rd {a b : Addr} {v : V} {H : Hp} {N : Hp → Prop} {kvs : List (List Key × V)} {k : List Key} (e : H a = some (.dT kvs)) (eb : H b = some (.tup (k.map kV))) (hl : kvs.length < sizeLine) (q : ∀ H', Chg a H H' → H' a = some (.dT (putK kvs k v)) → N H') : rDP a (.ref b) v H N := by
  unfold rDP
  exact ⟨_, DPut.t e eb hl, q _ Chg.upd upd_same⟩
/- sorted(d) -/
/-- a key that is a pair of ints -/
def pK (x : Int × Int) : List Key := [.inl x.1, .inl x.2]
@[irreducible] def rSoD (a : Addr) (H : Hp) (Q : VK) : Prop := ∃ kvs : List ((Int × Int) × V), H a = some (.dT (kvs.map fun z => (pK z.1, z.2))) ∧ kvs.length < 64 ∧
  ∀ p H' (bs : List Addr) (ks : List (Int × Int)), H p = none → Same H H' → ks.Perm (kvs.map (·.1)) → Paired (fun b x => H' b = some (.tup [.int x.1, .int x.2])) bs ks → H' p = some (.lst (bs.map V.ref)) → Q (.ref p) H'
def rSoDM : List V → Hp → VK → Prop := fun xs H Q => match xs with
  | [.ref p] => rSoD p H Q
  | _ => False
theorem soD_rd {a : Addr} {H : Hp} {Q : VK} {kvs : List ((Int × Int) × V)} (h : H a = some (.dT (kvs.map fun z => (pK z.1, z.2)))) (hl : kvs.length < 64)
    (q : ∀ p H' (bs : List Addr) (ks : List (Int × Int)), H p = none → Same H H' → ks.Perm (kvs.map (·.1)) → Paired (fun b x => H' b = some (.tup [.int x.1, .int x.2])) bs ks → H' p = some (.lst (bs.map V.ref)) → Q (.ref p) H') : rSoD a H Q := by unfold rSoD; exact ⟨kvs, h, hl, q⟩
theorem paired_at {α β : Type} {R : α → β → Prop} : ∀ {as : List α} {bs : List β}, Paired R as bs → ∀ (i : Nat) (a : α) (b : β), as[i]? = some a → bs[i]? = some b → R a b := by
  intro as bs h
  induction h with
  | nil => intro i a b e; simp at e
  | cons h1 _ ih =>
    intro i a b e1 e2
    cases i with
    | zero => simp at e1 e2; subst e1; subst e2; exact h1
    | succ j => simp at e1 e2; exact ih j a b e1 e2
theorem paired_of {α β : Type} {R : α → β → Prop} : ∀ {as : List α} {bs : List β}, as.length = bs.length → (∀ (i : Nat) (a : α) (b : β), as[i]? = some a → bs[i]? = some b → R a b) → Paired R as bs
  | [], [], _, _ => .nil
  | a :: as, b :: bs, hl, h => .cons (h 0 a b rfl rfl) (paired_of (Nat.succ.inj hl) fun i x y e1 e2 => h (i + 1) x y (by simpa using e1) (by simpa using e2))
theorem cSortD (hc : X.calm = true) : CallR X (.builtin "sorted") rSoDM := fun pins s σ H xs us Q I r h => by
  unfold rSoDM at h
  split at h
  · rename_i p
    unfold rSoD at h
    obtain ⟨kvs, h1, h2, h3⟩ := h
    obtain ⟨u1, rfl, rx⟩ := vals1 r
    cases rx
    obtain ⟨zl, lo, ys, kt, o, es, ep, e1, e2, e3, e4, e5⟩ := dt_of I.hok h1
    have lk : ys.length = kvs.length := by have := Paired.length kt; rw [List.length_map] at this; exact this.symm
    have le : es.size = kvs.length := by rw [← Array.length_toList, e4, List.length_map, lk]
    have at_ : ∀ i, (hi : i < kvs.length) → ∃ b v, ys[i]? = some (pK kvs[i].1, b, v) ∧ H b = some (.tup [.int kvs[i].1.1, .int kvs[i].1.2]) := fun i hi => by
      have hy : i < ys.length := lk ▸ hi
      have z := paired_at kt i (pK kvs[i].1, kvs[i].2) ys[i] (by simp [hi]) (by simp [hy])
      refine ⟨ys[i].2.1, ys[i].2.2, ?_, z.2.1⟩
      rw [List.getElem?_eq_getElem hy]
      have z1 : pK kvs[i].1 = ys[i].1 := z.1
      rw [z1]
    have ke : ∀ i e, es[i]? = some e → ∃ hi : i < kvs.length, ∃ b v, ys[i]? = some (pK kvs[i].1, b, v) ∧ e.key = .ref b ∧ H b = some (.tup [.int kvs[i].1.1, .int kvs[i].1.2]) := fun i e q => by
      obtain ⟨q1, q2⟩ := Array.getElem?_eq_some_iff.mp q
      have hi : i < kvs.length := le ▸ q1
      obtain ⟨b, v, y1, y2⟩ := at_ i hi
      refine ⟨hi, b, v, y1, ?_, y2⟩
      rw [← Array.getElem?_toList, e4, List.getElem?_map, y1] at q
      simp only [Option.map_some, Option.some.injEq] at q
      rw [← q]; rfl
    refine sorted_raw (xs := fun i => ((kvs.map (·.1))[i]?).getD (0, 0)) lo (I.ok.hd hc) (d := p) (es := es) (ep := ep) ⟨o, e1, e2, e3⟩ (by omega) (fun i e q => ?_) fun h' hF tk c pm vs k1 kF pp ev eF => ?_
    · obtain ⟨hi, b, v, _, q2, q3⟩ := ke i e q
      obtain ⟨_, its, rv, ob, b1, b2, n, b3⟩ := (show ObjOk X.prog X.w H s.heap b (.tup [.int kvs[i].1.1, .int kvs[i].1.2]) from I.hok b _ q3)
      obtain ⟨v1, v2, rfl, w1, w2⟩ := vals2 rv
      obtain ⟨t1, rfl⟩ := w1
      obtain ⟨t2, rfl⟩ := w2
      have ex : ((kvs.map (·.1))[i]?).getD (0, 0) = kvs[i].1 := by simp [hi]
      rw [ex, q2]
      exact ⟨b, ob, t1, t2, n, rfl, b1, b2, b3⟩
    · have hp : p < s.heap.objs.size := Heap.lt_size e1
      have I1 : Inv X pins σ H { s with heap := h', toks := tk } := I.kept k1
      have fr : H h'.objs.size = none := I1.fresh
      let as : List Addr := pm.map fun i => ((ys[i]?).map (·.2.1)).getD 0
      have mem : ∀ i, i ∈ pm → i < kvs.length := fun i hi => by have := List.mem_range.mp (pp.mem_iff.mp hi); omega
      have vals : (pm.map fun i => vs.getD i Value.none) = as.map Value.ref := by
        rw [List.map_map]
        refine List.map_congr_left fun i hi => ?_
        have hi' := mem i hi
        have hes : i < es.size := by omega
        obtain ⟨_, b, v, y1, y2, _⟩ := ke i es[i] (by simp [hes])
        rw [ev]
        simp [hes, y1, y2]
      have rl : Vals (as.map V.ref) (as.map Value.ref) := by
        generalize as = l
        induction l with
        | nil => exact .nil
        | cons a l ih => exact .cons rfl ih
      have lz : as.length ≤ sizeLine := by
        show (pm.map _).length ≤ _
        rw [List.length_map, pp.length_eq, List.length_range, sizeLine_eq]; omega
      refine ⟨.ref _, _, I1.laid (h' := hF) (t' := tk) (o := .lst (as.map V.ref)) kF (Nat.le_refl _) ?_, rfl, h3 _ _ as (pm.map fun i => ((kvs.map (·.1))[i]?).getD (0, 0)) fr (Same.upd fr) ?_ ?_ upd_same⟩
      · exact ⟨by rw [List.length_map]; exact lz, as.map Value.ref, c, rl, by rw [eF, vals]⟩
      · have e : (List.range kvs.length).map (fun i => ((kvs.map (·.1))[i]?).getD (0, 0)) = kvs.map (·.1) := by
          apply List.ext_getElem (by simp)
          intro i a1 a2
          simp at a1
          simp [a1]
        have q := (show pm.Perm (List.range kvs.length) from le ▸ pp).map fun i => ((kvs.map (·.1))[i]?).getD (0, 0)
        rw [e] at q
        exact q
      · refine paired_of (by rw [List.length_map, List.length_map]) fun i a x q1 q2 => ?_
        rw [List.getElem?_map] at q1 q2
        obtain ⟨j, j1, j2⟩ := Option.map_eq_some_iff.mp q1
        rw [j1] at q2
        have hj := mem j (List.mem_of_getElem? j1)
        obtain ⟨b, v, y1, y2⟩ := at_ j hj
        rw [y1] at j2
        have j3 : b = a := j2
        have ex : kvs[j].1 = x := by simpa [hj] using q2
        rw [← j3, ← ex]
        exact (Same.upd fr) b _ y2
  · exact h.elim
end
end L2

set_option Elab.async false
set_option linter.all false
set_option maxRecDepth 100000
set_option maxHeartbeats 1000000
namespace G
open PySem L2
def top (i : Nat) : Stmt := PySem.Challenge.pw_hostfields_k67_papers_changed.main.body.getD i (.Pass ⟨0, 0, 0, 0⟩)
abbrev s_is_whole : Stmt := top 16
theorem sc_is_whole : FnScope ["thing"] ["thing"] (defScope s_is_whole) := ⟨rfl, rfl, rfl, by decide +kernel, rfl, by decide +kernel, by decide +kernel⟩
abbrev s_is_from : Stmt := top 17
theorem sc_is_from : FnScope ["thing", "least"] ["thing", "least"] (defScope s_is_from) := ⟨rfl, rfl, rfl, by decide +kernel, rfl, by decide +kernel, by decide +kernel⟩
abbrev s_look_many : Stmt := top 19
theorem sc_look_many : FnScope ["many"] ["many"] (defScope s_look_many) := ⟨rfl, rfl, rfl, by decide +kernel, rfl, by decide +kernel, by decide +kernel⟩
abbrev s_table_times : Stmt := top 20
theorem sc_table_times : FnScope ["rows", "many"] ["rows", "many"] (defScope s_table_times) := ⟨rfl, rfl, rfl, by decide +kernel, rfl, by decide +kernel, by decide +kernel⟩
abbrev s_row_times : Stmt := top 21
theorem sc_row_times : FnScope ["row", "many"] ["row", "many"] (defScope s_row_times) := ⟨rfl, rfl, rfl, by decide +kernel, rfl, by decide +kernel, by decide +kernel⟩
abbrev s_paper_exchanged : Stmt := top 22
theorem sc_paper_exchanged : FnScope ["paper"] ["paper"] (defScope s_paper_exchanged) := ⟨rfl, rfl, rfl, by decide +kernel, rfl, by decide +kernel, by decide +kernel⟩
abbrev s_paper_scaled : Stmt := top 23
theorem sc_paper_scaled : FnScope ["paper", "many"] ["paper", "many"] (defScope s_paper_scaled) := ⟨rfl, rfl, rfl, by decide +kernel, rfl, by decide +kernel, by decide +kernel⟩
abbrev s_paper_times : Stmt := top 24
theorem sc_paper_times : FnScope ["paper", "many"] ["paper", "many"] (defScope s_paper_times) := ⟨rfl, rfl, rfl, by decide +kernel, rfl, by decide +kernel, by decide +kernel⟩
abbrev s__law_stirred : Stmt := top 26
theorem sc__law_stirred : FnScope ["_law_number", "_law_k", "_law_mixed"] ["_law_number", "_law_k"] (defScope s__law_stirred) := ⟨rfl, rfl, rfl, by decide +kernel, rfl, by decide +kernel, by decide +kernel⟩
abbrev s__law_opened : Stmt := top 27
theorem sc__law_opened : FnScope ["_law_cell"] ["_law_cell"] (defScope s__law_opened) := ⟨rfl, rfl, rfl, by decide +kernel, rfl, by decide +kernel, by decide +kernel⟩
abbrev s__law_draw : Stmt := top 28
theorem sc__law_draw : FnScope ["_law_left", "_law_base", "_law_digit", "_law_number", "_law_turn", "_law_mixed"] ["_law_left", "_law_base"] (defScope s__law_draw) := ⟨rfl, rfl, rfl, by decide +kernel, rfl, by decide +kernel, by decide +kernel⟩
abbrev s__law_drawn_plan : Stmt := top 29
theorem sc__law_drawn_plan : FnScope ["_law_left", "_law_hosts", "_law_many", "_law_found", "_law_rest", "_law_k", "_law_sent"] ["_law_left", "_law_hosts", "_law_many"] (defScope s__law_drawn_plan) := ⟨rfl, rfl, rfl, by decide +kernel, rfl, by decide +kernel, by decide +kernel⟩
abbrev s__law_drawn_mix : Stmt := top 30
theorem sc__law_drawn_mix : FnScope ["_law_left", "_law_hosts", "_law_many", "_law_most", "_law_found", "_law_k", "_law_weight"] ["_law_left", "_law_hosts", "_law_many", "_law_most"] (defScope s__law_drawn_mix) := ⟨rfl, rfl, rfl, by decide +kernel, rfl, by decide +kernel, by decide +kernel⟩
abbrev s__law_flowing : Stmt := top 31
theorem sc__law_flowing : FnScope ["_law_mix", "_law_found", "_law_k", "_law_flows", "_law_plan", "_law_weight", "_law_key"] ["_law_mix"] (defScope s__law_flowing) := ⟨rfl, rfl, rfl, by decide +kernel, rfl, by decide +kernel, by decide +kernel⟩
abbrev s__law_kind_of : Stmt := top 32
theorem sc__law_kind_of : FnScope ["_law_caught", "_law_some", "_law_names"] ["_law_caught"] (defScope s__law_kind_of) := ⟨rfl, rfl, rfl, by decide +kernel, rfl, by decide +kernel, by decide +kernel⟩
abbrev s__law_drawn_paper : Stmt := top 33
theorem sc__law_drawn_paper : FnScope ["_law_left", "_law_hosts", "_law_many", "_law_stream", "_law_wide", "_law_far", "_law_table"] ["_law_left"] (defScope s__law_drawn_paper) := ⟨rfl, rfl, rfl, by decide +kernel, rfl, by decide +kernel, by decide +kernel⟩
abbrev s__law_marked : Stmt := top 34
theorem sc__law_marked : FnScope ["_law_thing", "_law_part"] ["_law_thing"] (defScope s__law_marked) := ⟨rfl, rfl, rfl, by decide +kernel, rfl, by decide +kernel, by decide +kernel⟩
abbrev s__law_once : Stmt := top 35
theorem sc__law_once : FnScope ["_law_thing", "_law_part"] ["_law_thing"] (defScope s__law_once) := ⟨rfl, rfl, rfl, by decide +kernel, rfl, by decide +kernel, by decide +kernel⟩
abbrev s__law_changed : Stmt := top 36
theorem sc__law_changed : FnScope ["_law_way", "_law_paper", "_law_many"] ["_law_way", "_law_paper", "_law_many"] (defScope s__law_changed) := ⟨rfl, rfl, rfl, by decide +kernel, rfl, by decide +kernel, by decide +kernel⟩
abbrev s__law_caught_by : Stmt := top 37
theorem sc__law_caught_by : FnScope ["_law_paper", "_law_many", "_law_caught", "e"] ["_law_paper", "_law_many"] (defScope s__law_caught_by) := ⟨rfl, rfl, rfl, by decide +kernel, rfl, by decide +kernel, by decide +kernel⟩
abbrev s_law : Stmt := top 38
theorem sc_law : FnScope ["_law_script", "_law_cell", "_law_left", "_law_paper", "_law_handed", "_law_far", "_law_many", "_law_way", "_law_by", "_law_told", "_law_due"] ["_law_script"] (defScope s_law) := ⟨rfl, rfl, rfl, by decide +kernel, rfl, by decide +kernel, by decide +kernel⟩
theorem nb_0 : (["number", "many"] : List Str).Nodup := by decide +kernel
theorem nb_1 : (["row", "many"] : List Str).Nodup := by decide +kernel
theorem nb_2 : (["row"] : List Str).Nodup := by decide +kernel
theorem nb_3 : (["_law_key", "_law_flows"] : List Str).Nodup := by decide +kernel
theorem nb_4 : (["_law_k", "_law_wide", "_law_left", "_law_far"] : List Str).Nodup := by decide +kernel
theorem nb_5 : (["_law_count", "_law_left", "_law_far"] : List Str).Nodup := by decide +kernel
theorem nb_6 : (["_law_row"] : List Str).Nodup := by decide +kernel
theorem nb_7 : (["_law_row", "_law_by"] : List Str).Nodup := by decide +kernel
theorem nb_8 : (["_law_number", "_law_by"] : List Str).Nodup := by decide +kernel
theorem nb_9 : (["_law_number"] : List Str).Nodup := by decide +kernel
structure Cz (K : PySem.W.Frag) (mg : Str → Option Value) (base : Heap) (a_HostError a_NoBattle a_NoPlan a_NoMix a_NoStream a_NoSide a_NoAlike a_NoNumber a_TooGreat a_NoEven a_NoText a_NoRow a_NoName a_NoPlace : Addr) : Prop where
  g_HostError : mg "HostError" = some (.ref a_HostError)
  g_NoBattle : mg "NoBattle" = some (.ref a_NoBattle)
  g_NoPlan : mg "NoPlan" = some (.ref a_NoPlan)
  g_NoMix : mg "NoMix" = some (.ref a_NoMix)
  g_NoStream : mg "NoStream" = some (.ref a_NoStream)
  g_NoSide : mg "NoSide" = some (.ref a_NoSide)
  g_NoAlike : mg "NoAlike" = some (.ref a_NoAlike)
  g_NoNumber : mg "NoNumber" = some (.ref a_NoNumber)
  g_TooGreat : mg "TooGreat" = some (.ref a_TooGreat)
  g_NoEven : mg "NoEven" = some (.ref a_NoEven)
  g_NoText : mg "NoText" = some (.ref a_NoText)
  g_NoRow : mg "NoRow" = some (.ref a_NoRow)
  g_NoName : mg "NoName" = some (.ref a_NoName)
  g_NoPlace : mg "NoPlace" = some (.ref a_NoPlace)
  o_NoNumber : PyProof.Rows.OwnCls "NoNumber" a_NoNumber bmV newV mg base
  k_NoNumber : ExcK K a_NoNumber
  c_NoNumber : (PySem.W.clsIn K a_NoNumber).isSome = true
  m_NoNumber : PySem.W.exmOne K (.ref a_NoNumber) (.ref a_HostError) = some true
  v_NoNumber : PySem.W.kitOne K (.ref a_NoNumber) (.type "ValueError") = some true
  i_NoNumber_HostError : PySem.W.kitOne K (.ref a_NoNumber) (.ref a_HostError) = some true
  i_NoNumber_NoBattle : PySem.W.kitOne K (.ref a_NoNumber) (.ref a_NoBattle) = some false
  i_NoNumber_NoPlan : PySem.W.kitOne K (.ref a_NoNumber) (.ref a_NoPlan) = some false
  i_NoNumber_NoMix : PySem.W.kitOne K (.ref a_NoNumber) (.ref a_NoMix) = some false
  i_NoNumber_NoStream : PySem.W.kitOne K (.ref a_NoNumber) (.ref a_NoStream) = some false
  i_NoNumber_NoSide : PySem.W.kitOne K (.ref a_NoNumber) (.ref a_NoSide) = some false
  i_NoNumber_NoAlike : PySem.W.kitOne K (.ref a_NoNumber) (.ref a_NoAlike) = some false
  i_NoNumber_NoNumber : PySem.W.kitOne K (.ref a_NoNumber) (.ref a_NoNumber) = some true
  i_NoNumber_TooGreat : PySem.W.kitOne K (.ref a_NoNumber) (.ref a_TooGreat) = some false
  i_NoNumber_NoEven : PySem.W.kitOne K (.ref a_NoNumber) (.ref a_NoEven) = some false
  i_NoNumber_NoText : PySem.W.kitOne K (.ref a_NoNumber) (.ref a_NoText) = some false
  i_NoNumber_NoRow : PySem.W.kitOne K (.ref a_NoNumber) (.ref a_NoRow) = some false
  i_NoNumber_NoName : PySem.W.kitOne K (.ref a_NoNumber) (.ref a_NoName) = some false
  i_NoNumber_NoPlace : PySem.W.kitOne K (.ref a_NoNumber) (.ref a_NoPlace) = some false
  n_HostError : PySem.W.kitOne K (.type "NoneType") (.ref a_HostError) = some false
  n_NoBattle : PySem.W.kitOne K (.type "NoneType") (.ref a_NoBattle) = some false
  n_NoPlan : PySem.W.kitOne K (.type "NoneType") (.ref a_NoPlan) = some false
  n_NoMix : PySem.W.kitOne K (.type "NoneType") (.ref a_NoMix) = some false
  n_NoStream : PySem.W.kitOne K (.type "NoneType") (.ref a_NoStream) = some false
  n_NoSide : PySem.W.kitOne K (.type "NoneType") (.ref a_NoSide) = some false
  n_NoAlike : PySem.W.kitOne K (.type "NoneType") (.ref a_NoAlike) = some false
  n_NoNumber : PySem.W.kitOne K (.type "NoneType") (.ref a_NoNumber) = some false
  n_TooGreat : PySem.W.kitOne K (.type "NoneType") (.ref a_TooGreat) = some false
  n_NoEven : PySem.W.kitOne K (.type "NoneType") (.ref a_NoEven) = some false
  n_NoText : PySem.W.kitOne K (.type "NoneType") (.ref a_NoText) = some false
  n_NoRow : PySem.W.kitOne K (.type "NoneType") (.ref a_NoRow) = some false
  n_NoName : PySem.W.kitOne K (.type "NoneType") (.ref a_NoName) = some false
  n_NoPlace : PySem.W.kitOne K (.type "NoneType") (.ref a_NoPlace) = some false
structure Nm (mg : Str → Option Value) : Prop where
  ValueError_ : mg "ValueError" = none
  bool_ : mg "bool" = none
  int_ : mg "int" = none
  isinstance_ : mg "isinstance" = none
  len_ : mg "len" = none
  list_ : mg "list" = none
  range_ : mg "range" = none
  sorted_ : mg "sorted" = none
  sum_ : mg "sum" = none
  tuple_ : mg "tuple" = none
/-! ### how a promise is read -/
local macro_rules | `(tactic| walk_at "hp") => `(tactic| first | assumption | (refine Same.at (H := ?H) ?s ?e; (case s => assumption); (case e => walk_at "hp")) | (refine Chg.at (a := ?a) (H := ?H) ?c ?e ?n; (case c => assumption); (case n => walk_at "ne"); (case e => walk_at "hp")) | fail "hp")
local macro_rules | `(tactic| walk_at "ne") => `(tactic| first | assumption | (apply Ne.symm; assumption) | fail "ne")
local macro_rules | `(tactic| walk_at "wh") => `(tactic| (conv => whnf))
local macro_rules | `(tactic| walk_at "st") => `(tactic| (conv => whnf); first
  | refine mulR_rd (by omega) (by omega) ?_
  | refine mulL_rd (by omega) (by omega) ?_
  | refine modG_rd (by omega) (fun r h0 h1 => ?_)
  | refine div_rd (by omega) (by omega) ?_
  | (refine pow_rd ⟨by decide, by decide, by decide⟩ ?_; simp only [Int.reduceToNat, Int.reducePow])
  | (refine ixT_rd (xs := ?xs) (v := ?v) ?hp ?ev ?_; (case hp => walk_at "hp"); (case ev => rfl))
  | (refine ixL_rd (xs := ?xs) (v := ?v) ?hp ?ev ?_; (case hp => walk_at "hp"); (case ev => rfl))
  | refine newT_rd (fun p H' hf hs ha => ?_)
  | refine newL_rd (fun p H' hf hs ha => ?_)
  | refine isiI_rd ?_
  | (refine isiT_rd (xs := ?xs) ?hp ?_; (case hp => walk_at "hp"))
  | (refine isiL_rd (xs := ?xs) ?hp ?_; (case hp => walk_at "hp"))
  | (refine lenT_rd (xs := ?xs) ?hp ?_; (case hp => walk_at "hp"))
  | (refine lenL_rd (xs := ?xs) ?hp ?_; (case hp => walk_at "hp"))
  | refine isiB_rd ?_
  | refine br_T ?_
  | refine br_F ?_
  | refine br_dT (by omega) ?_
  | refine br_dF (by omega) ?_
  | fail "st")
local macro_rules | `(tactic| walk_at "om") => `(tactic| first | decide | omega)
section
variable {P : Program} {w : World} {K : PySem.W.Frag} {mg : Str → Option Value} {base : Heap} {a_HostError : Addr} {a_NoBattle : Addr} {a_NoPlan : Addr} {a_NoMix : Addr} {a_NoStream : Addr} {a_NoSide : Addr} {a_NoAlike : Addr} {a_NoNumber : Addr} {a_TooGreat : Addr} {a_NoEven : Addr} {a_NoText : Addr} {a_NoRow : Addr} {a_NoName : Addr} {a_NoPlace : Addr}
/-! ### marks, all the way down -/
inductive MkV (H : Hp) : Nat → V → List Addr → Prop
  | flat {n : Nat} {v : V} (f : flatV v = true) (k : isT "mark" v = false) : MkV H n v []
  | tup {n : Nat} {p : Addr} {xs : List V} {Bs : List (List Addr)} (h : H p = some (.tup xs)) (z : xs.length ≤ 1000) (l : Bs.length = xs.length) (e : ∀ (i : Nat) x B, xs[i]? = some x → Bs[i]? = some B → MkV H n x B) : MkV H (n + 1) (.ref p) Bs.flatten
  | lst {n : Nat} {p : Addr} {xs : List V} {Bs : List (List Addr)} (h : H p = some (.lst xs)) (z : xs.length ≤ 1000) (l : Bs.length = xs.length) (e : ∀ (i : Nat) x B, xs[i]? = some x → Bs[i]? = some B → MkV H n x B) : MkV H (n + 1) (.ref p) (p :: Bs.flatten)
theorem flat_mem {Bs : List (List Addr)} {a : Addr} (h : a ∈ Bs.flatten) : ∃ (i : Nat) (B : List Addr), Bs[i]? = some B ∧ a ∈ B := by
  obtain ⟨B, hB, ha⟩ := List.mem_flatten.mp h
  obtain ⟨i, hi, e⟩ := List.mem_iff_getElem.mp hB
  exact ⟨i, B, by rw [List.getElem?_eq_getElem hi, e], ha⟩
theorem mem_flat {Bs : List (List Addr)} {a : Addr} {i : Nat} {B : List Addr} (h : Bs[i]? = some B) (ha : a ∈ B) : a ∈ Bs.flatten := List.mem_flatten.mpr ⟨B, List.mem_of_getElem? h, ha⟩
theorem bs_at {Bs : List (List Addr)} {n i : Nat} (l : Bs.length = n) (h : i < n) : ∃ B, Bs[i]? = some B := ⟨_, List.getElem?_eq_getElem (by walk_at "om")⟩
theorem xs_at {xs : List V} {n i : Nat} {B : List Addr} {Bs : List (List Addr)} (l : Bs.length = xs.length) (h : Bs[i]? = some B) : ∃ x, xs[i]? = some x := ⟨_, List.getElem?_eq_getElem (by have := (List.getElem?_eq_some_iff.mp h).1; omega)⟩
theorem MkV.isl {H : Hp} {n : Nat} {v : V} {As : List Addr} (m : MkV H n v As) : ∀ a ∈ As, ∃ ys, H a = some (.lst ys) := by
  induction m with
  | flat _ _ => intro a h; cases h
  | tup h z l e ih =>
    intro a ha
    obtain ⟨i, B, e1, e2⟩ := flat_mem ha
    obtain ⟨x, ex⟩ := xs_at (n := 0) l e1
    exact ih i x B ex e1 a e2
  | @lst n p xs Bs h z l e ih =>
    intro a ha
    rcases List.mem_cons.mp ha with rfl | ha
    · exact ⟨_, h⟩
    · obtain ⟨i, B, e1, e2⟩ := flat_mem ha
      obtain ⟨x, ex⟩ := xs_at (n := 0) l e1
      exact ih i x B ex e1 a e2
theorem MkV.chgS {H H' : Hp} {L : List Addr} (hL : ∀ a ∈ L, ∃ ys, H a = some (.lst ys)) (c : ChgS L H H') {n : Nat} {v : V} {As : List Addr} (m : MkV H n v As) : (∀ a ∈ As, a ∉ L) → MkV H' n v As := by
  induction m with
  | flat f k => intro _; exact .flat f k
  | tup h z l e ih =>
    intro hn
    refine .tup (c _ _ (fun hm => by obtain ⟨ys, q⟩ := hL _ hm; rw [h] at q; cases q) h) z l fun i x B e1 e2 => ih i x B e1 e2 fun a ha => hn a (mem_flat e2 ha)
  | lst h z l e ih =>
    intro hn
    exact .lst (c _ _ (hn _ List.mem_cons_self) h) z l fun i x B e1 e2 => ih i x B e1 e2 fun a ha => hn a (List.mem_cons_of_mem _ (mem_flat e2 ha))
theorem MkV.same {H H' : Hp} {n : Nat} {v : V} {As : List Addr} (m : MkV H n v As) (s : Same H H') : MkV H' n v As := m.chgS (L := []) (fun _ h => by cases h) (fun b o _ e => s b o e) fun _ _ h => by cases h
/-- the lists at As have a mark behind, all else is as it was -/
def Mkd (H H' : Hp) (As : List Addr) : Prop := ChgS As H H' ∧ ∀ a ∈ As, ∀ xs, H a = some (.lst xs) → H' a = some (.lst (xs ++ [.str "mark"]))
theorem Mkd.same {H H' H'' : Hp} {As : List Addr} (m : Mkd H H' As) (s : Same H' H'') : Mkd H H'' As := ⟨m.1.same s, fun a ha xs h => s _ _ (m.2 a ha xs h)⟩
theorem take_flat {Bs : List (List Addr)} {i : Nat} {B : List Addr} (h : Bs[i]? = some B) : (Bs.take (i + 1)).flatten = (Bs.take i).flatten ++ B := by
  rw [List.take_succ, h]; simp
theorem nd_split {Bs : List (List Addr)} {i : Nat} {B : List Addr} (h : Bs[i]? = some B) (nd : Bs.flatten.Nodup) : B.Nodup ∧ ∀ a ∈ B, a ∉ (Bs.take i).flatten := by
  have e : Bs.flatten = (Bs.take (i + 1)).flatten ++ (Bs.drop (i + 1)).flatten := by rw [← List.flatten_append, List.take_append_drop]
  rw [e, take_flat h] at nd
  have n1 := (List.nodup_append.mp nd).1
  have n2 := List.nodup_append.mp n1
  exact ⟨n2.2.1, fun a ha hb => n2.2.2 a hb a ha rfl⟩
theorem Mkd.push {H H1 H2 : Hp} {Bs : List (List Addr)} {i : Nat} {B : List Addr} (h : Bs[i]? = some B) (hd : ∀ a ∈ B, a ∉ (Bs.take i).flatten) (m : Mkd H H1 (Bs.take i).flatten) (m2 : Mkd H1 H2 B) : Mkd H H2 (Bs.take (i + 1)).flatten := by
  rw [take_flat h]
  refine ⟨fun b o hb e => m2.1 b o (fun z => hb (List.mem_append_right _ z)) (m.1 b o (fun z => hb (List.mem_append_left _ z)) e), fun a ha xs hx => ?_⟩
  rcases List.mem_append.mp ha with ha | ha
  · exact m2.1 a _ (fun z => hd a z ha) (m.2 a ha xs hx)
  · exact m2.2 a ha xs (m.1 a _ (hd a ha) hx)
theorem listT_rd {K : PySem.W.Frag} {p : Addr} {H : Hp} {Q : VK} {ys : List V} (h : H p = some (.tup ys)) (q : ∀ l H', H l = none → Same H H' → H' l = some (.lst ys) → Q (.ref l) H') : rListA K p H Q := by unfold rListA; exact ⟨ys, .inr (SqT.of h), q⟩
def sp_markN : Nat → Sp
  | 0 => fun _ _ _ _ => False
  | n + 1 => fun vs H Q _ => ∃ (p : Addr) (As : List Addr), vs = [.ref p] ∧ MkV H n (.ref p) As ∧ As.Nodup ∧ ∀ H', Mkd H H' As → Q .non H'
@[irreducible] def sp__law_marked : Sp := sp_markN 6
theorem marked_rd {H : Hp} {p : Addr} {As : List Addr} {Q : VK} {E : XK} (m : MkV H 5 (.ref p) As) (nd : As.Nodup) (q : ∀ H', Mkd H H' As → Q .non H') : sp__law_marked [.ref p] H Q E := by unfold sp__law_marked; exact ⟨p, As, rfl, m, nd, q⟩
theorem MkV.cases {H : Hp} {n : Nat} {v : V} {As : List Addr} (m : MkV H n v As) : (flatV v = true ∧ isT "mark" v = false ∧ As = []) ∨ ∃ (n' : Nat) (p : Addr) (xs : List V) (Bs : List (List Addr)), n = n' + 1 ∧ v = .ref p ∧ xs.length ≤ 1000 ∧ Bs.length = xs.length ∧ (∀ (i : Nat) x B, xs[i]? = some x → Bs[i]? = some B → MkV H n' x B) ∧ ((H p = some (.tup xs) ∧ As = Bs.flatten) ∨ (H p = some (.lst xs) ∧ As = p :: Bs.flatten)) := by
  cases m with
  | flat f k => exact .inl ⟨f, k, rfl⟩
  | tup h z l e => exact .inr ⟨_, _, _, _, rfl, rfl, z, l, e, .inl ⟨h, rfl⟩⟩
  | lst h z l e => exact .inr ⟨_, _, _, _, rfl, rfl, z, l, e, .inr ⟨h, rfl⟩⟩
theorem isiT_any {K : PySem.W.Frag} {H : Hp} {Q : VK} {n : Nat} {v : V} {As : List Addr} {t : Addr} (ht : H t = some (.tup [.ty "list", .ty "tuple"])) (m : MkV H n v As) (h1 : flatV v = true → As = [] → Q (.bl false) H) (h2 : ∀ p, v = .ref p → Q (.bl true) H) : rIsiT K v (.ref t) H Q := by
  have ht : H t = some (.tup (["list", "tuple"].map V.ty)) := ht
  rcases m.cases with ⟨f, k, e⟩ | ⟨n', p, xs, Bs, rfl, rfl, z, l, e, ⟨h, _⟩ | ⟨h, _⟩⟩
  · cases v with
    | non => exact isiTN_rd ht (h1 f e)
    | bl b => exact isiTB_rd ht (h1 f e)
    | int i => exact isiTI_rd ht (h1 f e)
    | str x => exact isiTS_rd ht (h1 f e)
    | _ => exact absurd (show false = true from f) Bool.false_ne_true
  · exact isiTT_rd ht h (h2 p rfl)
  · exact isiTL_rd ht h (h2 p rfl)
set_option maxHeartbeats 0 in
theorem ok__law_marked {f : Addr} {fd : FuncData} (F : Fun K "_law_marked" "_law_marked" s__law_marked f fd) (N : Nm mg) (hgR : mg "_law_marked" = some (.ref f)) (hkR : PySem.W.keepIn K (.ref f) = true) (hbR : Binds K fd ["_law_thing"] []) : FnOk P w K mg base CX0 7 f fd ["_law_thing"] sp__law_marked := by
  have key : ∀ n, FnOk P w K mg base CX0 (n + 1) f fd ["_law_thing"] (sp_markN n) := by
    intro n
    induction n with
    | zero => exact F.ok sc__law_marked (fun vs H Q E h => h.elim) (fun cdv A outer s H vs Q E hr h => h.elim)
    | succ n ih =>
      have D__law_marked : Def P w K mg base CX0 (n + 1) "_law_marked" ["_law_thing"] (sp_markN n) := ⟨f, fd, ih, hgR, hkR, hbR⟩
      refine F.ok sc__law_marked (fun vs H Q E h => by obtain ⟨_, _, rfl, _⟩ := h; rfl) (fun cdv A outer s H vs Q E hr h => ?_)
      obtain ⟨p, As, rfl, m, nd, q⟩ := h
      refine ⟨_, (pss_cons (psFor PassesOwn.never rfl (piSeqK (K := K) rfl (pT (cListK (K := K) rfl) N.list_ bt_list (pa_cons (pq 0) pa_nil))) (pg_name (i := 1) sc__law_marked.nd rfl (by first | exact Or.inl rfl | exact Or.inr rfl)) (pss_one (psIf (ptV (pB (cIsiT (K := K) rfl) N.isinstance_ bt_isinstance (pa_cons (pq 1) (pa_cons (peTup (pa_cons (pTy N.list_ bt_list) (pa_cons (pTy N.tuple_ bt_tuple) pa_nil))) pa_nil)))) (pss_one (ps_expr (pD D__law_marked hr pass0 (pa_cons (pq 1) pa_nil) (hk := by walk_at "om")))) pss_nil)))
      (pss_one (psIf (ptV (pB (cIsiK (K := K) rfl) N.isinstance_ bt_isinstance (pa_cons (pq 0) (pa_cons (pTy N.list_ bt_list) pa_nil)))) (pss_one (ps_expr (peM_append (pq 0) (pa_cons pe_str pa_nil)))) pss_nil))), ?_⟩
      rcases m.cases with ⟨f, _, _⟩ | ⟨n', p', xs, Bs, rfl, ep, z, l, e, hc⟩
      · exact absurd (show false = true from f) Bool.false_ne_true
      cases ep
      have nf : Bs.flatten.Nodup := by
        rcases hc with ⟨_, rfl⟩ | ⟨_, rfl⟩
        · exact nd
        · exact (List.nodup_cons.mp nd).2
      have isl : ∀ (i : Nat) B, Bs[i]? = some B → ∀ a ∈ B, ∃ ys, H a = some (.lst ys) := fun i B hB => by
        obtain ⟨x, ex⟩ := xs_at (n := 0) l hB
        exact (e i x B ex hB).isl
      have isl2 : ∀ i, ∀ a ∈ (Bs.take i).flatten, ∃ ys, H a = some (.lst ys) := fun i a ha => by
        obtain ⟨B, hB, hm⟩ := List.mem_flatten.mp ha
        obtain ⟨j, hj, ej⟩ := List.mem_iff_getElem.mp (List.mem_of_mem_take hB)
        exact isl j B (by rw [List.getElem?_eq_getElem hj, ej]) a hm
      have hm : ∀ (R : VK), (∀ l' H', H l' = none → Same H H' → H' l' = some (.lst xs) → R (.ref l') H') → rListA K p H R := fun R r => by
        rcases hc with ⟨h, _⟩ | ⟨h, _⟩
        · exact listT_rd h r
        · exact listL_rd (SqL.of h) r
      walk_at "wh"
      refine hm _ (fun q1 H1 f1 s1 h1 => ?_)
      refine iterL_rd h1 ?_
      have nq : ∀ i, q1 ∉ (Bs.take i).flatten := fun i hi => by obtain ⟨ys, z⟩ := isl2 i q1 hi; rw [f1] at z; cases z
      refine loop_list (xs := xs) (fun i σ H2 => ∃ t : Option V, σ = [some (.ref p), t] ∧ Mkd H H2 (Bs.take i).flatten ∧ H2 q1 = some (.lst xs)) ?_ ?_ ?_ ?_
      · exact ⟨_, rfl, ⟨fun b o _ h => s1 b o h, fun a ha => by simp at ha⟩, h1⟩
      · rintro i σ H2 _ ⟨_, _, _, h⟩
        exact SqL.of h
      · rintro i x σ H2 hx ⟨t, rfl, m2, h2⟩
        have hi := (List.getElem?_eq_some_iff.mp hx).1
        obtain ⟨B, hB⟩ := bs_at l hi
        have nb := nd_split hB nf
        have mx := (e i x B hx hB).chgS (isl2 i) m2.1 nb.2
        refine newT_rd (fun t1 H3 f3 s3 h3 => ?_)
        walk_at "wh"
        refine isiT_any h3 (mx.same s3) (fun fx eB => ?_) (fun p1 ep => ?_)
        · subst eB
          refine br_F ?_
          walk_at "wh"
          refine ⟨_, rfl, (Mkd.push hB nb.2 m2 ⟨fun b o _ h => h, fun a ha => by cases ha⟩).same s3, s3 _ _ h2⟩
        · subst ep
          refine br_T ?_
          walk_at "wh"
          obtain ⟨n'', rfl⟩ : ∃ n'', n' = n'' + 1 := by
            rcases mx.cases with ⟨f, _, _⟩ | ⟨n'', _, _, _, rfl, _⟩
            · exact absurd (show false = true from f) Bool.false_ne_true
            · exact ⟨_, rfl⟩
          refine ⟨p1, B, rfl, mx.same s3, nb.1, fun H4 m4 => ?_⟩
          walk_at "wh"
          refine ⟨_, rfl, Mkd.push hB nb.2 (m2.same s3) m4, m4.1 _ _ (fun hq => ?_) (s3 _ _ h2)⟩
          obtain ⟨ys, zz⟩ := isl i B hB q1 hq
          rw [f1] at zz
          cases zz
      · rintro σ H2 ⟨t, rfl, m2, h2⟩
        have eT : Bs.take xs.length = Bs := by rw [← l, List.take_length]
        rw [eT] at m2
        walk_at "wh"
        rcases hc with ⟨h, rfl⟩ | ⟨h, rfl⟩
        · have hp := m2.1 _ _ (fun hm => by obtain ⟨i, B, e1, e2⟩ := flat_mem hm; obtain ⟨ys, z⟩ := isl i B e1 _ e2; rw [h] at z; cases z) h
          refine isiT_rd hp ?_
          refine br_F ?_
          walk_at "wh"
          exact q _ m2
        · have np := (List.nodup_cons.mp nd).1
          have hp := m2.1 _ _ np h
          refine isiL_rd hp ?_
          refine br_T ?_
          refine lst_is hp ?_
          refine app_rd hp (by rw [sizeLine_eq]; omega) (fun H3 c3 h3 => ?_)
          walk_at "wh"
          refine q _ ⟨fun b o hb h => c3 b o (fun z => hb (z ▸ List.mem_cons_self)) (m2.1 b o (fun z => hb (List.mem_cons_of_mem _ z)) h), fun a ha ys hy => ?_⟩
          rcases List.mem_cons.mp ha with rfl | ha
          · rw [h] at hy
            cases hy
            exact h3
          · exact c3 _ _ (fun z => np (z ▸ ha)) (m2.2 a ha ys hy)
  unfold sp__law_marked
  exact key 6
inductive OnV (H : Hp) : Nat → V → Prop
  | flat {n : Nat} {v : V} (f : flatV v = true) : OnV H n v
  | tup {n : Nat} {p : Addr} {xs : List V} (h : H p = some (.tup xs)) (z : xs.length ≤ 1000) (e : ∀ (i : Nat) x, xs[i]? = some x → OnV H n x) : OnV H (n + 1) (.ref p)
  | lst {n : Nat} {p : Addr} {xs : List V} (h : H p = some (.lst (xs ++ [.str "mark"]))) (z : xs.length ≤ 1000) (c : xs.countP (isT "mark") = 0) (e : ∀ (i : Nat) x, xs[i]? = some x → OnV H n x) : OnV H (n + 1) (.ref p)
theorem cnt_none {H : Hp} {n : Nat} : ∀ {xs : List V} {Bs : List (List Addr)}, Bs.length = xs.length → (∀ (i : Nat) x B, xs[i]? = some x → Bs[i]? = some B → MkV H n x B) → xs.countP (isT "mark") = 0
  | [], _, _, _ => rfl
  | x :: xs, [], l, _ => by cases l
  | x :: xs, B :: Bs, l, e => by
    have h0 : isT "mark" x = false := by
      rcases (e 0 x B rfl rfl).cases with ⟨_, k, _⟩ | ⟨_, p, _, _, _, rfl, _⟩
      · exact k
      · rfl
    rw [List.countP_cons, h0, cnt_none (by simpa using l) fun i x B h1 h2 => e (i + 1) x B h1 h2]
    rfl
theorem MkV.on {H0 H : Hp} {L : List Addr} (d : Mkd H0 H L) (hL : ∀ a ∈ L, ∃ ys, H0 a = some (.lst ys)) {n : Nat} {v : V} {As : List Addr} (m : MkV H0 n v As) : (∀ a ∈ As, a ∈ L) → OnV H n v := by
  induction m with
  | flat f _ => intro _; exact .flat f
  | tup h z l e ih =>
    intro hs
    refine .tup (d.1 _ _ (fun hm => by obtain ⟨ys, q⟩ := hL _ hm; rw [h] at q; cases q) h) z fun i x hx => ?_
    obtain ⟨B, hB⟩ := bs_at l (List.getElem?_eq_some_iff.mp hx).1
    exact ih i x B hx hB fun a ha => hs a (mem_flat hB ha)
  | lst h z l e ih =>
    intro hs
    refine .lst (d.2 _ (hs _ List.mem_cons_self) _ h) z (cnt_none l e) fun i x hx => ?_
    obtain ⟨B, hB⟩ := bs_at l (List.getElem?_eq_some_iff.mp hx).1
    exact ih i x B hx hB fun a ha => hs a (List.mem_cons_of_mem _ (mem_flat hB ha))
theorem OnV.same {H H' : Hp} (s : Same H H') {n : Nat} {v : V} (m : OnV H n v) : OnV H' n v := by
  induction m with
  | flat f => exact .flat f
  | tup h z e ih => exact .tup (s _ _ h) z ih
  | lst h z c e ih => exact .lst (s _ _ h) z c ih
theorem OnV.plain {H : Hp} {n : Nat} {v : V} (m : OnV H n v) : Plain H v := by
  cases m with
  | flat f => exact .inl f
  | tup h _ _ => exact .inr ⟨_, rfl, .inr ⟨_, h⟩⟩
  | lst h _ _ _ => exact .inr ⟨_, rfl, .inl ⟨_, h⟩⟩
theorem isiT_on {K : PySem.W.Frag} {H : Hp} {Q : VK} {v : V} {t : Addr} (ht : H t = some (.tup [.ty "list", .ty "tuple"])) (m : Plain H v) (h1 : flatV v = true → Q (.bl false) H) (h2 : ∀ p, v = .ref p → Q (.bl true) H) : rIsiT K v (.ref t) H Q := by
  have ht : H t = some (.tup (["list", "tuple"].map V.ty)) := ht
  rcases m with f | ⟨a, rfl, ⟨ys, h⟩ | ⟨ys, h⟩⟩
  · cases v with
    | non => exact isiTN_rd ht (h1 f)
    | bl b => exact isiTB_rd ht (h1 f)
    | int i => exact isiTI_rd ht (h1 f)
    | str x => exact isiTS_rd ht (h1 f)
    | _ => exact absurd (show false = true from f) Bool.false_ne_true
  · exact isiTL_rd ht h (h2 a rfl)
  · exact isiTT_rd ht h (h2 a rfl)
def sp_onceN : Nat → Sp
  | 0 => fun _ _ _ _ => False
  | n + 1 => fun vs H Q _ => ∃ p : Addr, vs = [.ref p] ∧ OnV H n (.ref p) ∧ ∀ H', Same H H' → Q (.bl true) H'
@[irreducible] def sp__law_once : Sp := sp_onceN 6
theorem once_rd {H0 H : Hp} {p : Addr} {As : List Addr} {Q : VK} {E : XK} (m : MkV H0 5 (.ref p) As) (d : Mkd H0 H As) (q : ∀ H', Same H H' → Q (.bl true) H') : sp__law_once [.ref p] H Q E := by unfold sp__law_once; exact ⟨p, rfl, m.on d m.isl fun _ h => h, q⟩
set_option maxHeartbeats 0 in
theorem ok__law_once {f : Addr} {fd : FuncData} (F : Fun K "_law_once" "_law_once" s__law_once f fd) (N : Nm mg) (hgR : mg "_law_once" = some (.ref f)) (hkR : PySem.W.keepIn K (.ref f) = true) (hbR : Binds K fd ["_law_thing"] []) : FnOk P w K mg base CX0 7 f fd ["_law_thing"] sp__law_once := by
  have key : ∀ n, FnOk P w K mg base CX0 (n + 1) f fd ["_law_thing"] (sp_onceN n) := by
    intro n
    induction n with
    | zero => exact F.ok sc__law_once (fun vs H Q E h => h.elim) (fun cdv A outer s H vs Q E hr h => h.elim)
    | succ n ih =>
      have D__law_once : Def P w K mg base CX0 (n + 1) "_law_once" ["_law_thing"] (sp_onceN n) := ⟨f, fd, ih, hgR, hkR, hbR⟩
      refine F.ok sc__law_once (fun vs H Q E h => by obtain ⟨_, rfl, _⟩ := h; rfl) (fun cdv A outer s H vs Q E hr h => ?_)
      obtain ⟨p, rfl, m, q⟩ := h
      have hu := hu40 hr
      refine ⟨_, (pss_cons (psIf (ptW (pwAnd (ptV (pB (cIsiK (K := K) rfl) N.isinstance_ bt_isinstance (pa_cons (pq 0) (pa_cons (pTy N.list_ bt_list) pa_nil)))) (pw_and1 (ptC (oNeK (K := K) rfl (by exact hu)) (peM_countT (K := K) rfl (by exact hu) (pq 0) (pa_cons pe_str pa_nil)) pe_int)))) (pss_one (ps_ret pe_bl)) pss_nil)
      (pss_cons (psFor PassesOwn.never rfl (piSeqK (K := K) rfl (pq 0)) (pg_name (i := 1) sc__law_once.nd rfl (by first | exact Or.inl rfl | exact Or.inr rfl)) (pss_one (psIf (ptW (pwAnd (ptV (pB (cIsiT (K := K) rfl) N.isinstance_ bt_isinstance (pa_cons (pq 1) (pa_cons (peTup (pa_cons (pTy N.list_ bt_list) (pa_cons (pTy N.tuple_ bt_tuple) pa_nil))) pa_nil)))) (pw_and1 (pt_not (ptV (pD D__law_once hr pass0 (pa_cons (pq 1) pa_nil) (hk := by walk_at "om"))))))) (pss_one (ps_ret pe_bl)) pss_nil)))
      (pss_one (ps_ret pe_bl)))), ?_⟩
      cases m with
      | flat f => exact absurd (show false = true from f) Bool.false_ne_true
      | @tup n' _ xs h z e =>
        refine isiT_rd h ?_
        refine br_F ?_
        refine br_F ?_
        refine iterT_rd h ?_
        refine loop_tup (xs := xs) (fun i σ H2 => ∃ t : Option V, σ = [some (.ref p), t] ∧ Same H H2) ?_ ?_ ?_ ?_
        · exact ⟨_, rfl, Same.refl _⟩
        · rintro i σ H2 _ ⟨_, _, s2⟩
          exact SqT.of (s2 _ _ h)
        · rintro i x σ H2 hx ⟨t, rfl, s2⟩
          have o := (e i x hx).same s2
          refine newT_rd (fun t1 H3 f3 s3 h3 => ?_)
          walk_at "wh"
          refine isiT_on h3 (o.same s3).plain (fun fx => ?_) (fun p1 ep => ?_)
          · walk_at "wh"
            refine br_F ?_
            refine br_F ?_
            walk_at "wh"
            exact ⟨_, rfl, s2.trans s3⟩
          · walk_at "wh"
            refine br_T ?_
            walk_at "wh"
            subst ep
            refine ⟨p1, rfl, o.same s3, fun H4 s4 => ?_⟩
            refine br_not (br_T ?_)
            walk_at "wh"
            exact ⟨_, rfl, (s2.trans s3).trans s4⟩
        · rintro σ H2 ⟨t, rfl, s2⟩
          walk_at "wh"
          exact q _ s2
      | @lst n' _ xs h z c e =>
        refine isiL_rd h ?_
        refine br_T ?_
        refine lst_is h ?_
        refine cntT_rd h (fun x hx => ?_) ?_
        · rcases List.mem_append.mp hx with hx | hx
          · obtain ⟨i, hi, ei⟩ := List.mem_iff_getElem.mp hx
            exact (e i x (by rw [List.getElem?_eq_getElem hi, ei])).plain
          · rw [List.mem_singleton.mp hx]; exact .inl rfl
        rw [List.countP_append, c]
        refine br_not (br_dT rfl ?_)
        refine iterL_rd h ?_
        refine loop_list (xs := xs ++ [.str "mark"]) (fun i σ H2 => ∃ t : Option V, σ = [some (.ref p), t] ∧ Same H H2) ?_ ?_ ?_ ?_
        · exact ⟨_, rfl, Same.refl _⟩
        · rintro i σ H2 _ ⟨_, _, s2⟩
          exact SqL.of (s2 _ _ h)
        · rintro i x σ H2 hx ⟨t, rfl, s2⟩
          have o : OnV H2 n' x := by
            by_cases hi : i < xs.length
            · rw [List.getElem?_append_left hi] at hx
              exact (e i x hx).same s2
            · have := List.mem_of_getElem? hx
              rw [List.getElem?_append_right (by walk_at "om")] at hx
              have hm := List.mem_of_getElem? hx
              rw [List.mem_singleton.mp hm]
              exact .flat rfl
          refine newT_rd (fun t1 H3 f3 s3 h3 => ?_)
          walk_at "wh"
          refine isiT_on h3 (o.same s3).plain (fun fx => ?_) (fun p1 ep => ?_)
          · walk_at "wh"
            refine br_F ?_
            refine br_F ?_
            walk_at "wh"
            exact ⟨_, rfl, s2.trans s3⟩
          · walk_at "wh"
            refine br_T ?_
            walk_at "wh"
            subst ep
            refine ⟨p1, rfl, o.same s3, fun H4 s4 => ?_⟩
            refine br_not (br_T ?_)
            walk_at "wh"
            exact ⟨_, rfl, (s2.trans s3).trans s4⟩
        · rintro σ H2 ⟨t, rfl, s2⟩
          walk_at "wh"
          exact q _ s2
  unfold sp__law_once
  exact key 6
-- @@split
/-! ### whole numbers, sizes -/
@[irreducible] def sp_is_whole : Sp := fun vs H Q _ => ∃ i : Int, vs = [.int i] ∧ Q (.bl true) H
theorem isw_rd {H : Hp} {i : Int} {Q : VK} {E : XK} (q : Q (.bl true) H) : sp_is_whole [.int i] H Q E := by unfold sp_is_whole; exact ⟨i, rfl, q⟩
theorem ok_is_whole {f : Addr} {fd : FuncData} (F : Fun K "is_whole" "is_whole" s_is_whole f fd) (N : Nm mg) : FnOk P w K mg base CX0 1 f fd ["thing"] sp_is_whole := by
  refine F.ok sc_is_whole (fun vs H Q E h => by unfold sp_is_whole at h; obtain ⟨n, rfl, _⟩ := h; rfl) (fun cdv A outer s H vs Q E hr h => ?_)
  unfold sp_is_whole at h
  obtain ⟨i, rfl, q⟩ := h
  refine ⟨_, (pss_one (ps_ret (peAnd (pB (cIsiK (K := K) rfl) N.isinstance_ bt_isinstance (pa_cons (pq 0) (pa_cons (pTy N.int_ bt_int) pa_nil))) (pe_one (peNot (pB (cIsiK (K := K) rfl) N.isinstance_ bt_isinstance (pa_cons (pq 0) (pa_cons (pTy N.bool_ bt_bool) pa_nil)))))))), ?_⟩
  repeat walk_at "st"
  walk_at "wh"
  exact q
@[irreducible] def sp_is_from : Sp := fun vs H Q _ => ∃ i l : Int, vs = [.int i, .int l] ∧ Q (.bl (decide (l ≤ i))) H
theorem isf_rd {H : Hp} {i l : Int} {Q : VK} {E : XK} (q : Q (.bl (decide (l ≤ i))) H) : sp_is_from [.int i, .int l] H Q E := by unfold sp_is_from; exact ⟨i, l, rfl, q⟩
theorem ok_is_from {f : Addr} {fd : FuncData} (F : Fun K "is_from" "is_from" s_is_from f fd) (N : Nm mg) (D_is_whole : Def P w K mg base CX0 1 "is_whole" ["thing"] sp_is_whole) : FnOk P w K mg base CX0 2 f fd ["thing", "least"] sp_is_from := by
  refine F.ok sc_is_from (fun vs H Q E h => by unfold sp_is_from at h; obtain ⟨n, k, rfl, _⟩ := h; rfl) (fun cdv A outer s H vs Q E hr h => ?_)
  unfold sp_is_from at h
  obtain ⟨i, l, rfl, q⟩ := h
  refine ⟨_, (pss_one (ps_ret (peAnd (pD D_is_whole hr pass0 (pa_cons (pq 0) pa_nil)) (pe_one (peC oLe (pq 1) (pq 0)))))), ?_⟩
  refine isw_rd ?_
  walk_at "st"
  walk_at "wh"
  exact q
/-! ### a heap without one thing, the new part of a heap -/
def rm (p : Addr) (H : Hp) : Hp := fun b => if b = p then none else H b
def nw (H H' : Hp) : Hp := fun b => match H b with
  | none => H' b
  | some _ => none
theorem rm_at {p b : Addr} {H : Hp} {o : HO} (n : b ≠ p) (h : H b = some o) : rm p H b = some o := by unfold rm; rw [if_neg n]; exact h
theorem rm_of {p b : Addr} {H : Hp} {o : HO} (h : rm p H b = some o) : b ≠ p ∧ H b = some o := by
  unfold rm at h
  by_cases e : b = p
  · rw [if_pos e] at h; cases h
  · rw [if_neg e] at h; exact ⟨e, h⟩
theorem nw_at {b : Addr} {H H' : Hp} {o : HO} (n : H b = none) (h : H' b = some o) : nw H H' b = some o := by unfold nw; rw [n]; exact h
theorem nw_of {b : Addr} {H H' : Hp} {o : HO} (h : nw H H' b = some o) : H b = none ∧ H' b = some o := by
  unfold nw at h
  cases e : H b with
  | none => rw [e] at h; exact ⟨rfl, h⟩
  | some v => rw [e] at h; cases h
theorem rm_same (p : Addr) (H : Hp) : Same (rm p H) H := fun b o h => (rm_of h).2
theorem Same.rm {p : Addr} {H H' : Hp} (s : Same H H') : Same (rm p H) (G.rm p H') := fun b o h => rm_at (rm_of h).1 (s _ _ (rm_of h).2)
theorem Chg.rm {p : Addr} {H H' : Hp} (s : Chg p H H') : Same (rm p H) (G.rm p H') := fun b o h => rm_at (rm_of h).1 (s _ _ (rm_of h).1 (rm_of h).2)
theorem nw_up {H H' H'' : Hp} (s : Same H' H'') : Same (nw H H') (nw H H'') := fun b o h => nw_at (nw_of h).1 (s _ _ (nw_of h).2)
theorem nw_rm {p : Addr} {o : HO} {H H' : Hp} (hp : H p = some o) : Same (nw H H') (rm p H') := fun b o h => rm_at (fun z => by have := (nw_of h).1; rw [z, hp] at this; cases this) (nw_of h).2
/-! ### mixes -/
structure MixAt (H : Hp) (m : Addr) (ts : List (Addr × Addr)) (ms : List (List Int × Int)) : Prop where
  out : H m = some (.lst (ts.map fun t => V.ref t.1))
  len : ts.length = ms.length
  part : ∀ (i : Nat) t x, ts[i]? = some t → ms[i]? = some x → H t.1 = some (.tup [.ref t.2, .int x.2]) ∧ H t.2 = some (.lst (x.1.map V.int))
abbrev OkM (h f : Int) (ms : List (List Int × Int)) : Prop := 1 ≤ ms.length ∧ ms.length ≤ 100 ∧ ((0 ≤ h ∧ h ≤ 40) ∧ 1 ≤ f ∧ f ≤ 8) ∧ ∀ x ∈ ms, (∀ n ∈ x.1, 0 ≤ n) ∧ (x.1.length : Int) = f ∧ x.1.sum = h ∧ 1 ≤ x.2
theorem MixAt.same {H H' : Hp} {m : Addr} {ts : List (Addr × Addr)} {ms : List (List Int × Int)} (M : MixAt H m ts ms) (s : Same H H') : MixAt H' m ts ms := ⟨s _ _ M.out, M.len, fun i t x h1 h2 => ⟨s _ _ (M.part i t x h1 h2).1, s _ _ (M.part i t x h1 h2).2⟩⟩
theorem MixAt.get {H : Hp} {m : Addr} {ts : List (Addr × Addr)} {ms : List (List Int × Int)} (M : MixAt H m ts ms) {i : Nat} (hi : i < ms.length) : ∃ t x, ts[i]? = some t ∧ ms[i]? = some x ∧ H t.1 = some (.tup [.ref t.2, .int x.2]) ∧ H t.2 = some (.lst (x.1.map V.int)) :=
  ⟨_, _, List.getElem?_eq_getElem (by have := M.len; omega), List.getElem?_eq_getElem hi, M.part i _ _ (List.getElem?_eq_getElem (by have := M.len; omega)) (List.getElem?_eq_getElem hi)⟩
theorem MixAt.elt {H : Hp} {m : Addr} {ts : List (Addr × Addr)} {ms : List (List Int × Int)} (M : MixAt H m ts ms) {i : Nat} {v : V} (e : (ts.map fun t => V.ref t.1)[i]? = some v) : ∃ t x, v = .ref t.1 ∧ ts[i]? = some t ∧ ms[i]? = some x ∧ H t.1 = some (.tup [.ref t.2, .int x.2]) ∧ H t.2 = some (.lst (x.1.map V.int)) := by
  rw [List.getElem?_map] at e
  obtain ⟨t, et, rfl⟩ := Option.map_eq_some_iff.mp e
  obtain ⟨t', x, h1, h2, h3⟩ := M.get (i := i) (by have := (List.getElem?_eq_some_iff.mp et).1; have := M.len; omega)
  rw [et] at h1
  cases h1
  exact ⟨t, x, rfl, et, h2, h3⟩
theorem MixAt.ix {H : Hp} {m : Addr} {ts : List (Addr × Addr)} {ms : List (List Int × Int)} (M : MixAt H m ts ms) {k : Nat} {x : List Int × Int} (e : ms[k]? = some x) : ∃ t, ts[k]? = some t ∧ atI (ts.map fun t => V.ref t.1) (k : Int) = some (.ref t.1) ∧ H t.1 = some (.tup [.ref t.2, .int x.2]) ∧ H t.2 = some (.lst (x.1.map V.int)) := by
  obtain ⟨t, x', h1, h2, h3⟩ := M.get (i := k) ((List.getElem?_eq_some_iff.mp e).1)
  rw [e] at h2
  cases h2
  exact ⟨t, h1, atI_nat (by rw [List.getElem?_map, h1]; rfl), h3⟩
/-! ### streams as lists of rows of three -/
abbrev Fl := Int × Int × Int
structure RowAt (H : Hp) (p : Addr) (bs : List Addr) (xs : List Fl) : Prop where
  out : H p = some (.lst (bs.map V.ref))
  row : Paired (fun b x => H b = some (.tup [.int x.1, .int x.2.1, .int x.2.2])) bs xs
structure StmAt (H : Hp) (p : Addr) (rs : List (Addr × List Addr)) (xss : List (List Fl)) : Prop where
  out : H p = some (.lst (rs.map fun r => V.ref r.1))
  row : Paired (fun r xs => RowAt (rm p H) r.1 r.2 xs) rs xss
theorem paired_mono {α β : Type} {R S : α → β → Prop} (f : ∀ a b, R a b → S a b) : ∀ {as : List α} {bs : List β}, Paired R as bs → Paired S as bs := fun h => paired_of h.length fun i a b e1 e2 => f _ _ (paired_at h i a b e1 e2)
theorem paired_snoc {α β : Type} {R : α → β → Prop} {as : List α} {bs : List β} {a : α} {b : β} (h : Paired R as bs) (x : R a b) : Paired R (as ++ [a]) (bs ++ [b]) := by
  induction h with
  | nil => exact .cons x .nil
  | cons h1 _ ih => exact .cons h1 ih
theorem RowAt.same {H H' : Hp} {p : Addr} {bs : List Addr} {xs : List Fl} (R : RowAt H p bs xs) (s : Same H H') : RowAt H' p bs xs := ⟨s _ _ R.out, paired_mono (fun _ _ h => s _ _ h) R.row⟩
theorem StmAt.same {H H' : Hp} {p : Addr} {rs : List (Addr × List Addr)} {xss : List (List Fl)} (R : StmAt H p rs xss) (s : Same H H') : StmAt H' p rs xss := ⟨s _ _ R.out, paired_mono (fun _ _ h => h.same (Same.rm s)) R.row⟩
/-! ### a dict of pairs and ints -/
theorem pK_inj {x y : Int × Int} : pK x = pK y ↔ x = y := by
  constructor
  · intro h
    unfold pK at h
    simp only [List.cons.injEq, Sum.inl.injEq, and_true] at h
    exact Prod.ext h.1 h.2
  · rintro rfl; rfl
abbrev gK (z : (Int × Int) × V) : List Key × V := (pK z.1, z.2)
theorem valV_pK (x : Int × Int) : ∀ kvs : List ((Int × Int) × V), valV (kvs.map gK) (pK x) = valV kvs x
  | [] => rfl
  | z :: r => by
    by_cases e : z.1 = x
    · rw [List.map_cons, valV_pos (pK_inj.mpr e), valV_pos e]
    · rw [List.map_cons, valV_neg (fun h => e (pK_inj.mp h)), valV_neg e, valV_pK x r]
theorem putK_pK (x : Int × Int) (v : V) (kvs : List ((Int × Int) × V)) : putK (kvs.map gK) (pK x) v = (putK kvs x v).map gK := by
  have an : ((kvs.map gK).any fun kv => decide (kv.1 = pK x)) = kvs.any fun kv => decide (kv.1 = x) := by
    rw [valV_any, valV_any, valV_pK]
  unfold putK
  rw [an]
  split
  · rw [List.map_map, List.map_map]
    refine List.map_congr_left fun z _ => ?_
    show (if pK z.1 = pK x then (pK z.1, v) else (pK z.1, z.2)) = gK (if z.1 = x then (z.1, v) else z)
    by_cases e : z.1 = x
    · rw [if_pos (pK_inj.mpr e), if_pos e]
    · rw [if_neg (fun h => e (pK_inj.mp h)), if_neg e]
  · rw [List.map_append]; rfl
/-- every value an int -/
def IntV (kvs : List ((Int × Int) × V)) : Prop := ∀ x v, valV kvs x = some v → ∃ n : Int, v = .int n
theorem IntV.put {kvs : List ((Int × Int) × V)} (h : IntV kvs) (x : Int × Int) (n : Int) : IntV (putK kvs x (.int n)) := fun y v e => by
  rw [valV_put] at e
  by_cases q : y = x
  · rw [if_pos q] at e; cases e; exact ⟨n, rfl⟩
  · rw [if_neg q] at e; exact h y v e
theorem IntV.dflt {kvs : List ((Int × Int) × V)} (h : IntV kvs) (x : Int × Int) : ∃ n : Int, (valV kvs x).getD (.int 0) = .int n := by
  cases e : valV kvs x with
  | none => exact ⟨0, rfl⟩
  | some v => obtain ⟨n, rfl⟩ := h x v e; exact ⟨n, rfl⟩
theorem IntV.key {kvs : List ((Int × Int) × V)} (h : IntV kvs) {x : Int × Int} (m : x ∈ kvs.map (·.1)) : ∃ n : Int, valV kvs x = some (.int n) := by
  cases e : valV kvs x with
  | none => exact absurd m (valV_not e)
  | some v => obtain ⟨n, rfl⟩ := h x v e; exact ⟨n, rfl⟩
/-! ### _law_flowing -/
@[irreducible] def sp__law_flowing : Sp := fun vs H Q _ => ∃ (m : Addr) (ts : List (Addr × Addr)) (ms : List (List Int × Int)) (h f : Int), vs = [.ref m] ∧ MixAt H m ts ms ∧ OkM h f ms ∧ ms.length ≤ 20 ∧ ∀ p rs xss H', H p = none → Same H H' → StmAt (nw H H') p rs xss → (xss.length : Int) = f → (∀ xs ∈ xss, xs.length ≤ 20) → Q (.ref p) H'
theorem flowing_rd {H : Hp} {m : Addr} {ts : List (Addr × Addr)} {ms : List (List Int × Int)} {h f : Int} {Q : VK} {E : XK} (M : MixAt H m ts ms) (O : OkM h f ms) (hl : ms.length ≤ 20) (q : ∀ p rs xss H', H p = none → Same H H' → StmAt (nw H H') p rs xss → (xss.length : Int) = f → (∀ xs ∈ xss, xs.length ≤ 20) → Q (.ref p) H') : sp__law_flowing [.ref m] H Q E := by
  unfold sp__law_flowing; exact ⟨m, ts, ms, h, f, rfl, M, O, hl, q⟩
theorem ok__law_flowing {f : Addr} {fd : FuncData} (F : Fun K "_law_flowing" "_law_flowing" s__law_flowing f fd) (N : Nm mg) : FnOk P w K mg base CX0 1 f fd ["_law_mix"] sp__law_flowing := by
  refine F.ok sc__law_flowing (fun vs H Q E h => by unfold sp__law_flowing at h; obtain ⟨_, _, _, _, _, rfl, _⟩ := h; rfl) (fun cdv A outer s H vs Q E hr h => ?_)
  unfold sp__law_flowing at h
  obtain ⟨m, ts, ms, h, f, rfl, M, O, hl, q⟩ := h
  have hu := hu40 hr
  obtain ⟨o1, o2, o3, o4⟩ := O
  refine ⟨_, (pss_cons (psS (i := 1) sc__law_flowing.nd (peLst pa_nil))
      (pss_cons (psFor PassesOwn.never rfl (piRng1 N.range_ (pa_cons (pB (cLenK (K := K) rfl) N.len_ bt_len (pa_cons (peIxK (K := K) rfl (peIxK (K := K) rfl (pq 0) pe_int) pe_int) pa_nil)) pa_nil)) (pg_name (i := 2) sc__law_flowing.nd rfl (by first | exact Or.inl rfl | exact Or.inr rfl)) (pss_cons (psS (i := 3) sc__law_flowing.nd peDNew)
      (pss_cons (psFor PassesOwn.never rfl (piSeqK (K := K) rfl (pq 0)) (pgAnyK (K := K) (n := 2) rfl rfl (pgsCons (pg_name (i := 4) sc__law_flowing.nd rfl (by first | exact Or.inl rfl | exact Or.inr rfl)) (pgsCons (pg_name (i := 5) sc__law_flowing.nd rfl (by first | exact Or.inl rfl | exact Or.inr rfl)) pgsNil))) (pss_cons (psS (i := 6) sc__law_flowing.nd (peTup (pa_cons (pB (cSumK (K := K) rfl rfl) N.sum_ bt_sum (pa_cons (pe_slice (slK (K := K) rfl) (pq 4) (poSome (pq 2)) po_none) pa_nil)) (pa_cons (peIxK (K := K) rfl (pq 4) (pq 2)) pa_nil))))
      (pss_one (psDPut (by exact hu) (pq 3) (pq 6) (pe_op oAdd (peM_get2 (by exact hu) (pq 3) (pq 6) pe_int) (pq 5))))))
      (pss_one (ps_expr (peM_append (pq 1) (pa_cons (peComp (N := ["_law_key", "_law_flows"]) (ks := [none, some 3]) (piSeqK (K := K) rfl (pB (cSortD rfl) N.sorted_ bt_sorted (pa_cons (pq 3) pa_nil))) (fun cl C s3 H3 fp => (pg_name (i := 0) nb_3 rfl (by first | exact Or.inl rfl | exact Or.inr rfl))) (fun cl C s3 H3 fp => pts_nil) (fun cl C s3 H3 fp => (peTup (pa_cons (peIxK (K := K) rfl (pq 0) pe_int) (pa_cons (peIxK (K := K) rfl (pq 0) pe_int) (pa_cons (peDGet (by exact hu) (pq 1) (pq 0)) pa_nil))))) (.skip (.take rfl rfl (by first | exact Or.inl rfl | exact Or.inr rfl) .nil))) pa_nil)))))))
      (pss_one (ps_ret (pq 1))))), ?_⟩
  refine newL_rd (fun l H1 f1 s1 h1 => ?_)
  have M1 := M.same s1
  obtain ⟨x0, ex0⟩ : ∃ x, ms[0]? = some x := ⟨ms[0]'(by walk_at "om"), List.getElem?_eq_getElem _⟩
  obtain ⟨t0, et0, at0, ht0, hp0⟩ := M1.ix ex0
  have kx0 := o4 x0 (List.mem_of_getElem? ex0)
  refine ixL_rd (v := .ref t0.1) M1.out at0 ?_
  refine ixT_rd (v := .ref t0.2) ht0 rfl ?_
  refine lenL_rd hp0 ?_
  rw [List.length_map]
  refine range_rd (by decide) (by decide) (by walk_at "om") (by walk_at "om") ?_
  obtain ⟨n, en⟩ : ∃ n : Nat, ((x0.1.length : Int) - 0).toNat = n := ⟨_, rfl⟩
  rw [en]
  have hn : (n : Int) = f := by walk_at "om"
  refine loop_range (fun i σ H2 => ∃ (k fl pl wt ky : Option V) (rs : List (Addr × List Addr)) (xss : List (List Fl)), σ = [some (.ref m), some (.ref l), k, fl, pl, wt, ky] ∧ Same H H2 ∧ StmAt (nw H H2) l rs xss ∧ xss.length = i ∧ ∀ xs ∈ xss, xs.length ≤ 20) ?_ ?_ ?_
  · exact ⟨_, _, _, _, _, [], [], rfl, s1, ⟨nw_at f1 h1, .nil⟩, rfl, fun _ z => nomatch z⟩
  · rintro i σ H2 hi ⟨k0, fl0, pl0, wt0, ky0, rs, xss, rfl, s2, S2, l2, b2⟩
    have S2l := S2.row.length
    refine dn_rd (fun d H3 f3 s3 h3 => ?_)
    refine iterL_rd ((M.same s2).same s3).out ?_
    refine loop_list (xs := ts.map fun t => V.ref t.1) (fun j σ H4 => ∃ (pl wt ky : Option V) (kvs : List ((Int × Int) × V)), σ = [some (.ref m), some (.ref l), some (.int (0 + i)), some (.ref d), pl, wt, ky] ∧ Same H2 H4 ∧ H4 d = some (.dT (kvs.map gK)) ∧ IntV kvs ∧ kvs.length ≤ j) ?_ ?_ ?_ ?_
    · exact ⟨_, _, _, [], rfl, s3, h3, (fun x v e => by cases e), Nat.le_refl _⟩
    · rintro j σ H4 _ ⟨_, _, _, _, _, s4, _⟩
      exact SqL.of ((M.same s2).same s4).out
    · rintro j v σ H4 hj ⟨pl1, wt1, ky1, kvs, rfl, s4, hd, iv, kl⟩
      have M4 := (M.same s2).same s4
      obtain ⟨t, x, rfl, e1, e2, ht, hp⟩ := M4.elt hj
      have kx := o4 x (List.mem_of_getElem? e2)
      have jl := (List.getElem?_eq_some_iff.mp e2).1
      have hix : i < x.1.length := by walk_at "om"
      refine unpT_rd ht ?_
      refine sl_rd (SqL.of hp) (fun p5 H5 f5 s5 h5 => ?_)
      rw [cut_drop (by walk_at "om"), show (0 + (i : Int)).toNat = i by walk_at "om", ← List.map_drop] at h5
      refine sum_rd h5 ?_
      refine ixL_rd (v := .int x.1[i]) (s5 _ _ hp) (by rw [show (0 + (i : Int)) = ((i : Nat) : Int) by walk_at "om"]; exact atI_nat (by simp [hix])) ?_
      refine newT_rd (fun p6 H6 f6 s6 h6 => ?_)
      have hd6 := s6 _ _ (s5 _ _ hd)
      refine isdT_rd hd6 ?_
      refine dg2T_rd hd6 (k := pK ((x.1.drop i).sum, x.1[i])) h6 ?_
      rw [valV_pK]
      obtain ⟨n0, e0⟩ := iv.dflt ((x.1.drop i).sum, x.1[i])
      rw [e0]
      refine dpT_rd hd6 (k := pK ((x.1.drop i).sum, x.1[i])) h6 (by rw [List.length_map, sizeLine_eq]; omega) (fun H7 c7 h7 => ?_)
      rw [putK_pK] at h7
      walk_at "wh"
      refine ⟨_, _, _, _, rfl, Same.chg ((s4.trans s5).trans s6) f3 c7, h7, iv.put _ _, ?_⟩
      have := length_putK kvs ((x.1.drop i).sum, x.1[i]) (.int (n0 + x.2))
      omega
    · rintro σ H4 ⟨pl1, wt1, ky1, kvs, rfl, s4, hd, iv, kl⟩
      rw [List.length_map, M.len] at kl
      have S4 := S2.same (nw_up s4)
      have hl4 := (nw_of S4.out).2
      refine lst_is hl4 ?_
      refine soD_rd hd (by walk_at "om") (fun p8 H8 bs ks f8 s8 pm pr h8 => ?_)
      have bl : bs.length = ks.length := pr.length
      have kl8 : ks.length ≤ 20 := by have := pm.length_eq; rw [List.length_map] at this; omega
      refine iterL_rd h8 ?_
      have key : ∀ x ∈ ks, ∃ n : Int, valV kvs x = some (.int n) := fun x hx => iv.key (pm.mem_iff.mp hx)
      let g : Int × Int → Int := fun x => match valV kvs x with
        | some (.int n) => n
        | _ => 0
      have eg : ∀ x ∈ ks, valV kvs x = some (.int (g x)) := fun x hx => by
        obtain ⟨n, e⟩ := key x hx
        show valV kvs x = some (.int (match valV kvs x with | some (.int n) => n | _ => 0))
        rw [e]
      refine comp_F (n := (bs.map V.ref).length) (Wk.list (SqL.of h8)) (by rw [List.length_map, sizeLine_eq]; omega) (fun j => .tup [.int (ks.getD j (0, 0)).1, .int (ks.getD j (0, 0)).2, .int (g (ks.getD j (0, 0)))]) (fun j σ => ∃ t : Option V, σ = [t, some (.ref d)]) ⟨none, rfl⟩ ?_ ?_
      · rintro j v σ H9 R' S' hj s9 hx ⟨t, rfl⟩ k
        obtain ⟨b, eb, rfl⟩ : ∃ b, bs[j]? = some b ∧ v = .ref b := by
          have hx : (bs.map V.ref)[j]? = some v := hx
          rw [List.getElem?_map] at hx
          obtain ⟨b, eb, rfl⟩ := Option.map_eq_some_iff.mp hx
          exact ⟨b, eb, rfl⟩
        obtain ⟨x, ex⟩ : ∃ x, ks[j]? = some x := ⟨ks[j]'(by have := (List.getElem?_eq_some_iff.mp eb).1; omega), List.getElem?_eq_getElem _⟩
        have eb' := s9 _ _ (paired_at pr j b x eb ex)
        have xg : ks.getD j (0, 0) = x := by rw [List.getD_eq_getElem?_getD, ex]; rfl
        rw [xg] at k
        have hd9 := s9 _ _ (s8 _ _ hd)
        refine br_T ?_
        refine ixT_rd (v := .int x.1) eb' rfl ?_
        refine ixT_rd (v := .int x.2) eb' rfl ?_
        refine dgT_rd hd9 (k := pK x) eb' (by rw [valV_pK]; exact eg x (List.mem_of_getElem? ex)) ?_
        refine newT_rd (fun pa Ha fa sa ha => ?_)
        walk_at "wh"
        exact k _ _ _ fa sa ha ⟨_, rfl⟩
      · intro acc ps H9 F9
        rw [List.length_map] at F9
        have F9l := F9.len
        have s49 := s8.trans F9.same
        refine app_rd (s49 _ _ hl4) (by rw [List.length_map, sizeLine_eq]; omega) (fun Ha ca ha => ?_)
        walk_at "wh"
        have fl : ∀ b, H8 b = none → H b = none ∧ b ≠ l := fun b hb => ⟨s2.free (s4.free (s8.free hb)), Ne.symm (ne_of_none (s8 _ _ hl4) hb)⟩
        have s4a : Same (rm l (nw H H4)) (rm l (nw H Ha)) := fun b o z => by
          obtain ⟨z1, z2⟩ := rm_of z
          obtain ⟨z3, z4⟩ := nw_of z2
          exact rm_at z1 (nw_at z3 (ca _ _ z1 (s49 _ _ z4)))
        refine ⟨_, _, _, _, _, rs ++ [(acc, ps)], xss ++ [ks.map fun x => (x.1, x.2, g x)], rfl, Same.chg (s2.trans (s4.trans s49)) f1 ca, ⟨nw_at f1 (by rw [ha, List.map_append]; rfl), paired_snoc (paired_mono (fun r xs hr' => ?_) S4.row) ⟨?_, ?_⟩⟩, by rw [List.length_append, l2]; rfl, ?_⟩
        · exact hr'.same s4a
        · have z := fl acc F9.facc
          exact rm_at z.2 (nw_at z.1 (ca _ _ z.2 F9.out))
        · refine paired_of (by show ps.length = _; rw [List.length_map]; omega) fun j b x q1 q2 => ?_
          rw [List.getElem?_map] at q2
          obtain ⟨y, ey, rfl⟩ := Option.map_eq_some_iff.mp q2
          obtain ⟨z1, z2⟩ := F9.row j b q1
          have yg : ks.getD j (0, 0) = y := by rw [List.getD_eq_getElem?_getD, ey]; rfl
          rw [yg] at z2
          have z := fl b z1
          exact rm_at z.2 (nw_at z.1 (ca _ _ z.2 z2))
        · intro xs hxs
          rcases List.mem_append.mp hxs with z | z
          · exact b2 xs z
          · rw [List.mem_singleton.mp z, List.length_map]; exact kl8
  · rintro σ H2 ⟨k0, fl0, pl0, wt0, ky0, rs, xss, rfl, s2, S2, l2, b2⟩
    walk_at "wh"
    exact q l rs xss H2 f1 s2 S2 (by walk_at "om") b2
-- @@split
/-! ### numbers of times -/
theorem mulC_rd {i j : Int} {H : Hp} {Q : VK} (h1 : -(10 ^ 30) ≤ i) (h2 : i ≤ 10 ^ 30) (h3 : -(10 ^ 30) ≤ j) (h4 : j ≤ 10 ^ 30) (q : Q (.int (i * j)) H) : rMulI i j H Q := by
  have e : (10 ^ 30 : Int) < 10 ^ 240 := by decide +kernel
  exact mul_rd (mulOk_of (Int.lt_of_lt_of_le (Int.neg_lt_neg e) h1) (Int.lt_of_le_of_lt h2 e) (Int.lt_of_lt_of_le (Int.neg_lt_neg e) h3) (Int.lt_of_le_of_lt h4 e)) q
@[irreducible] def sp_look_many (a_NoNumber : Addr) : Sp := fun vs H Q E => ∃ k : Int, vs = [.int k] ∧ (1 ≤ k → Q .non H) ∧ (k < 1 → E (.ref a_NoNumber) none H)
theorem look_many_rd {a_NoNumber : Addr} {H : Hp} {k : Int} {Q : VK} {E : XK} (h1 : 1 ≤ k → Q .non H) (h2 : k < 1 → E (.ref a_NoNumber) none H) : sp_look_many a_NoNumber [.int k] H Q E := by unfold sp_look_many; exact ⟨k, rfl, h1, h2⟩
theorem ok_look_many {f : Addr} {fd : FuncData} (F : Fun K "look_many" "look_many" s_look_many f fd) (N : Nm mg) (D_is_from : Def P w K mg base CX0 2 "is_from" ["thing", "least"] sp_is_from) (Z : Cz K mg base a_HostError a_NoBattle a_NoPlan a_NoMix a_NoStream a_NoSide a_NoAlike a_NoNumber a_TooGreat a_NoEven a_NoText a_NoRow a_NoName a_NoPlace) : FnOk P w K mg base (CXR P w) 3 f fd ["many"] (sp_look_many a_NoNumber) := by
  refine F.okR sc_look_many (fun vs H Q E h => by unfold sp_look_many at h; obtain ⟨_, rfl, _⟩ := h; rfl) (fun cdv A outer s H vs Q E hr hX h => ?_)
  unfold sp_look_many at h
  obtain ⟨k, rfl, h1, h2⟩ := h
  refine ⟨_, (pss_one (psIf (pt_not (ptV (pD D_is_from hr pass0 (pa_cons (pq 0) (pa_cons pe_int pa_nil))))) (pss_one (psRaise Z.o_NoNumber PySem.F.excBase_ValueError rfl hX (pa_cons pe_str pa_nil))) pss_nil)), ?_⟩
  refine isf_rd ?_
  refine br_not (br_dec (fun e => ?_) (fun e => ?_))
  · walk_at "wh"
    exact h1 e
  · walk_at "wh"
    exact ⟨by show 1 ≤ sizeLine; decide, h2 (by walk_at "om")⟩
@[irreducible] def sp_row_times : Sp := fun vs H Q _ => ∃ (r : Addr) (n : Nat) (g : Nat → Int) (k : Int), vs = [.ref r, .int k] ∧ H r = some (.lst (rowV n g)) ∧ n ≤ 100 ∧ (∀ i, i < n → -(10 ^ 30) ≤ g i ∧ g i ≤ 10 ^ 30) ∧ -(10 ^ 30) ≤ k ∧ k ≤ 10 ^ 30 ∧ ∀ p H', H p = none → Same H H' → H' p = some (.lst (rowV n fun i => g i * k)) → Q (.ref p) H'
theorem row_times_rd {H : Hp} {r : Addr} {n : Nat} {g : Nat → Int} {k : Int} {Q : VK} {E : XK} (h : H r = some (.lst (rowV n g))) (hn : n ≤ 100) (hb : ∀ i, i < n → -(10 ^ 30) ≤ g i ∧ g i ≤ 10 ^ 30) (h1 : -(10 ^ 30) ≤ k) (h2 : k ≤ 10 ^ 30) (q : ∀ p H', H p = none → Same H H' → H' p = some (.lst (rowV n fun i => g i * k)) → Q (.ref p) H') : sp_row_times [.ref r, .int k] H Q E := by unfold sp_row_times; exact ⟨r, n, g, k, rfl, h, hn, hb, h1, h2, q⟩
theorem ok_row_times {f : Addr} {fd : FuncData} (F : Fun K "row_times" "row_times" s_row_times f fd) (N : Nm mg) : FnOk P w K mg base CX0 1 f fd ["row", "many"] sp_row_times := by
  refine F.ok sc_row_times (fun vs H Q E h => by unfold sp_row_times at h; obtain ⟨_, _, _, _, rfl, _⟩ := h; rfl) (fun cdv A outer s H vs Q E hr h => ?_)
  unfold sp_row_times at h
  obtain ⟨r, n, g, k, rfl, h, hn, hb, h1, h2, q⟩ := h
  refine ⟨_, (pss_one (ps_ret (peComp (N := ["number", "many"]) (ks := [none, some 1]) (piSeqK (K := K) rfl (pq 0)) (fun cl C s3 H3 fp => (pg_name (i := 0) nb_0 rfl (by first | exact Or.inl rfl | exact Or.inr rfl))) (fun cl C s3 H3 fp => pts_nil) (fun cl C s3 H3 fp => (pe_op oMul (pq 0) (pq 1))) (.skip (.take rfl rfl (by first | exact Or.inl rfl | exact Or.inr rfl) .nil))))), ?_⟩
  refine iterL_rd h ?_
  refine comp_I (Wk.list (SqL.of h)) (by rw [rowV_len, sizeLine_eq]; omega) (fun i => .int (g i * k)) (fun _ => true) (fun j σ => ∃ t : Option V, σ = [t, some (.int k)]) ⟨none, rfl⟩ ?_ ?_
  · rintro j v σ H1 R S hj s1 hx ⟨t, rfl⟩ k' _
    rw [rowV_len] at hj
    rw [rowV_get hj] at hx
    cases hx
    refine br_T ?_
    refine mulC_rd (hb j hj).1 (hb j hj).2 h1 h2 ?_
    walk_at "wh"
    exact k' rfl _ _ (Same.refl _) ⟨_, rfl⟩
  intro acc H1 f1 s1 h1'
  rw [filter_T, rowV_len] at h1'
  walk_at "wh"
  exact q _ _ f1 s1 h1'
@[irreducible] def sp_table_times : Sp := fun vs H Q _ => ∃ (r : Addr) (ps : List Addr) (n m : Nat) (g : Nat → Nat → Int) (k : Int), vs = [.ref r, .int k] ∧ GridAt H r ps n m g ∧ n ≤ 100 ∧ m ≤ 100 ∧ (∀ x y, x < n → y < m → -(10 ^ 30) ≤ g x y ∧ g x y ≤ 10 ^ 30) ∧ -(10 ^ 30) ≤ k ∧ k ≤ 10 ^ 30 ∧ ∀ q qs H', FreshL H H' q qs n (fun i => .lst (rowV m fun y => g i y * k)) → Q (.ref q) H'
theorem table_times_rd {H : Hp} {r : Addr} {ps : List Addr} {n m : Nat} {g : Nat → Nat → Int} {k : Int} {Q : VK} {E : XK} (G : GridAt H r ps n m g) (hn : n ≤ 100) (hm : m ≤ 100) (hb : ∀ x y, x < n → y < m → -(10 ^ 30) ≤ g x y ∧ g x y ≤ 10 ^ 30) (h1 : -(10 ^ 30) ≤ k) (h2 : k ≤ 10 ^ 30) (q : ∀ q qs H', FreshL H H' q qs n (fun i => .lst (rowV m fun y => g i y * k)) → Q (.ref q) H') : sp_table_times [.ref r, .int k] H Q E := by unfold sp_table_times; exact ⟨r, ps, n, m, g, k, rfl, G, hn, hm, hb, h1, h2, q⟩
theorem ok_table_times {f : Addr} {fd : FuncData} (F : Fun K "table_times" "table_times" s_table_times f fd) (N : Nm mg) (D_row_times : Def P w K mg base CX0 1 "row_times" ["row", "many"] sp_row_times) : FnOk P w K mg base CX0 2 f fd ["rows", "many"] sp_table_times := by
  refine F.ok sc_table_times (fun vs H Q E h => by unfold sp_table_times at h; obtain ⟨_, _, _, _, _, _, rfl, _⟩ := h; rfl) (fun cdv A outer s H vs Q E hr h => ?_)
  unfold sp_table_times at h
  obtain ⟨r, ps, n, m, g, k, rfl, G, hn, hm, hb, h1, h2, q⟩ := h
  have gl := G.len
  refine ⟨_, (pss_one (ps_ret (peComp (N := ["row", "many"]) (ks := [none, some 1]) (piSeqK (K := K) rfl (pq 0)) (fun cl C s3 H3 fp => (pg_name (i := 0) nb_1 rfl (by first | exact Or.inl rfl | exact Or.inr rfl))) (fun cl C s3 H3 fp => pts_nil) (fun cl C s3 H3 fp => (pD D_row_times hr pass0 (pa_cons (pq 0) (pa_cons (pq 1) pa_nil)))) (.skip (.take rfl rfl (by first | exact Or.inl rfl | exact Or.inr rfl) .nil))))), ?_⟩
  refine iterL_rd G.out ?_
  refine comp_F (n := (ps.map V.ref).length) (Wk.list (SqL.of G.out)) (by rw [List.length_map, sizeLine_eq]; omega) (fun i => .lst (rowV m fun y => g i y * k)) (fun j σ => ∃ t : Option V, σ = [t, some (.int k)]) ⟨none, rfl⟩ ?_ ?_
  · rintro j v σ H1 R S hj s1 hx ⟨t, rfl⟩ k'
    rw [List.getElem?_map] at hx
    obtain ⟨p, ep, rfl⟩ := Option.map_eq_some_iff.mp hx
    rw [List.length_map, gl] at hj
    refine br_T ?_
    refine row_times_rd (s1 _ _ (G.row j p ep)) hm (fun i hi => hb j i hj hi) h1 h2 (fun p2 H2 f2 s2 h2' => ?_)
    walk_at "wh"
    exact k' _ _ _ f2 s2 h2' ⟨_, rfl⟩
  · intro acc qs H1 F1
    rw [List.length_map, gl] at F1
    walk_at "wh"
    exact q _ _ _ F1
/-! ### papers: a stream and a table -/
structure StR (H : Hp) (p : Addr) (rs : List (Addr × List Addr)) (xss : List (List Fl)) : Prop where
  out : H p = some (.lst (rs.map fun r => V.ref r.1))
  row : Paired (fun r xs => RowAt H r.1 r.2 xs) rs xss
theorem StR.same {H H' : Hp} {p : Addr} {rs : List (Addr × List Addr)} {xss : List (List Fl)} (R : StR H p rs xss) (s : Same H H') : StR H' p rs xss := ⟨s _ _ R.out, paired_mono (fun _ _ h => h.same s) R.row⟩
theorem StmAt.str {H : Hp} {p : Addr} {rs : List (Addr × List Addr)} {xss : List (List Fl)} (S : StmAt H p rs xss) : StR H p rs xss := ⟨S.out, paired_mono (fun _ _ h => h.same (rm_same _ _)) S.row⟩
structure PapAt (H : Hp) (p st tb : Addr) (rs : List (Addr × List Addr)) (xss : List (List Fl)) (ps : List Addr) (n m : Nat) (g : Nat → Nat → Int) : Prop where
  out : H p = some (.tup [.ref st, .ref tb])
  stm : StR H st rs xss
  tab : GridAt H tb ps n m g
section
variable {H H' : Hp} {p st tb p' st' tb' : Addr} {rs rs' : List (Addr × List Addr)} {xss : List (List Fl)} {ps ps' : List Addr} {n m : Nat} {g g' : Nat → Nat → Int}
theorem PapAt.same (P : PapAt H p st tb rs xss ps n m g) (s : Same H H') : PapAt H' p st tb rs xss ps n m g := ⟨s _ _ P.out, P.stm.same s, P.tab.same s⟩
/-- not too long, not too great -/
abbrev OkP (xss : List (List Fl)) (n m : Nat) (g : Nat → Nat → Int) : Prop := xss.length ≤ 20 ∧ (∀ xs ∈ xss, xs.length ≤ 20) ∧ n ≤ 20 ∧ m ≤ 20 ∧ ∀ x y, x < n → y < m → -(10 ^ 30) ≤ g x y ∧ g x y ≤ 10 ^ 30
variable {K : PySem.W.Frag}
theorem all_true {n : Nat} : ((List.range n).all fun _ => true) = true := by simp
theorem EqR.rowF {a b : Addr} {bs cs : List Addr} {xs : List Fl} (A : RowAt H a bs xs) (B : RowAt H b cs xs) : EqR K H 2 (.ref a) (.ref b) true := by
  have e := EqR.lst (K := K) (H := H) (n := 1) (fun _ => true) (SqL.of A.out) (SqL.of B.out) (by rw [List.length_map, List.length_map, A.row.length, B.row.length]) fun j x y hx hy => by
    rw [List.getElem?_map] at hx hy
    obtain ⟨u, eu, rfl⟩ := Option.map_eq_some_iff.mp hx
    obtain ⟨v, ev, rfl⟩ := Option.map_eq_some_iff.mp hy
    obtain ⟨z, ez⟩ : ∃ z, xs[j]? = some z := ⟨xs[j]'(by have := (List.getElem?_eq_some_iff.mp eu).1; have := A.row.length; omega), List.getElem?_eq_getElem _⟩
    have t := EqR.tup (K := K) (H := H) (n := 0) (fun _ => true) (SqT.of (paired_at A.row j u z eu ez)) (SqT.of (paired_at B.row j v z ev ez)) fun i x y h1 h2 => by
      rw [h1] at h2
      cases h2
      have f : flatV x = true := by
        match i with
        | 0 => cases h1; rfl
        | 1 => cases h1; rfl
        | 2 => cases h1; rfl
        | i + 3 => simp at h1
      have := EqR.flat (K := K) (H := H) (n := 0) f f
      rwa [eqV_self f] at this
    exact t
  rwa [all_true] at e
theorem EqR.str {a b : Addr} (A : StR H a rs xss) (B : StR H b rs' xss) : EqR K H 3 (.ref a) (.ref b) true := by
  have e := EqR.lst (K := K) (H := H) (n := 2) (fun _ => true) (SqL.of A.out) (SqL.of B.out) (by rw [List.length_map, List.length_map, A.row.length, B.row.length]) fun j x y hx hy => by
    rw [List.getElem?_map] at hx hy
    obtain ⟨u, eu, rfl⟩ := Option.map_eq_some_iff.mp hx
    obtain ⟨v, ev, rfl⟩ := Option.map_eq_some_iff.mp hy
    obtain ⟨z, ez⟩ : ∃ z, xss[j]? = some z := ⟨xss[j]'(by have := (List.getElem?_eq_some_iff.mp eu).1; have := A.row.length; omega), List.getElem?_eq_getElem _⟩
    exact EqR.rowF (paired_at A.row j u z eu ez) (paired_at B.row j v z ev ez)
  rwa [all_true] at e
theorem EqR.gridF {a b : Addr} (A : GridAt H a ps n m g) (B : GridAt H b ps' n m g) : EqR K H 3 (.ref a) (.ref b) true := by
  have e := EqR.lst (K := K) (H := H) (n := 2) (fun _ => true) (SqL.of A.out) (SqL.of B.out) (by rw [List.length_map, List.length_map, A.len, B.len]) fun j x y hx hy => by
    rw [List.getElem?_map] at hx hy
    obtain ⟨u, eu, rfl⟩ := Option.map_eq_some_iff.mp hx
    obtain ⟨v, ev, rfl⟩ := Option.map_eq_some_iff.mp hy
    have t := EqR.lst (K := K) (H := H) (n := 1) (fun _ => true) (SqL.of (A.row j u eu)) (SqL.of (B.row j v ev)) rfl fun i x y h1 h2 => by
      rw [h1] at h2
      cases h2
      have hi := (List.getElem?_eq_some_iff.mp h1).1
      rw [rowV_len] at hi
      rw [rowV_get hi] at h1
      cases h1
      have := EqR.flat (K := K) (H := H) (n := 1) (x := .int (g j i)) (y := .int (g j i)) rfl rfl
      rwa [eqV_self rfl] at this
    rwa [all_true] at t
  rwa [all_true] at e
theorem PapAt.eq (A : PapAt H p st tb rs xss ps n m g) (B : PapAt H p' st' tb' rs' xss ps' n m g) : EqR K H 4 (.ref p) (.ref p') true := by
  have e := EqR.tup (K := K) (H := H) (n := 3) (fun _ => true) (SqT.of A.out) (SqT.of B.out) fun j x y hx hy => by
    match j with
    | 0 => cases hx; cases hy; exact EqR.str A.stm B.stm
    | 1 => cases hx; cases hy; exact EqR.gridF A.tab B.tab
    | j + 2 => simp at hx
  exact e
/-- the lists of a paper, to be marked -/
theorem MkV.rowF {a : Addr} {bs : List Addr} {xs : List Fl} (A : RowAt H a bs xs) (z : bs.length ≤ 20) : MkV H 3 (.ref a) [a] := by
  have q := MkV.lst (H := H) (n := 2) (p := a) (Bs := bs.map fun _ => []) A.out (by rw [List.length_map]; omega) (by rw [List.length_map, List.length_map]) fun i x B hx hB => by
    rw [List.getElem?_map] at hx hB
    obtain ⟨b, eb, rfl⟩ := Option.map_eq_some_iff.mp hx
    rw [eb] at hB
    cases hB
    obtain ⟨y, ey⟩ : ∃ y, xs[i]? = some y := ⟨xs[i]'(by have := (List.getElem?_eq_some_iff.mp eb).1; have := A.row.length; omega), List.getElem?_eq_getElem _⟩
    have t := MkV.tup (H := H) (n := 1) (p := b) (Bs := [[], [], []]) (paired_at A.row i b y eb ey) (by simp) rfl fun j x B hx hB => by
      match j with
      | 0 => cases hx; cases hB; exact .flat rfl rfl
      | 1 => cases hx; cases hB; exact .flat rfl rfl
      | 2 => cases hx; cases hB; exact .flat rfl rfl
      | j + 3 => simp at hx
    exact t
  have e : (bs.map fun _ => ([] : List Addr)).flatten = [] := by
    induction bs with
    | nil => rfl
    | cons b bs ih => simp
  rwa [e] at q
theorem flat_sing (l : List Addr) : (l.map fun a => [a]).flatten = l := by
  induction l with
  | nil => rfl
  | cons a l ih => rw [List.map_cons, List.flatten_cons, ih]; rfl
theorem MkV.str {a : Addr} (A : StR H a rs xss) (z : rs.length ≤ 20) (z2 : ∀ xs ∈ xss, xs.length ≤ 20) : MkV H 4 (.ref a) (a :: rs.map (·.1)) := by
  have q := MkV.lst (H := H) (n := 3) (p := a) (Bs := (rs.map (·.1)).map fun b => [b]) A.out (by rw [List.length_map]; omega) (by simp) fun i x B hx hB => by
    rw [List.getElem?_map] at hx
    rw [List.getElem?_map, List.getElem?_map] at hB
    obtain ⟨r, er, rfl⟩ := Option.map_eq_some_iff.mp hx
    rw [er] at hB
    cases hB
    obtain ⟨y, ey⟩ : ∃ y, xss[i]? = some y := ⟨xss[i]'(by have := (List.getElem?_eq_some_iff.mp er).1; have := A.row.length; omega), List.getElem?_eq_getElem _⟩
    have R := paired_at A.row i r y er ey
    exact MkV.rowF R (by rw [R.row.length]; exact z2 y (List.mem_of_getElem? ey))
  rwa [flat_sing] at q
theorem MkV.gridF {a : Addr} (A : GridAt H a ps n m g) (zn : n ≤ 20) (zm : m ≤ 20) : MkV H 4 (.ref a) (a :: ps) := by
  have q := MkV.lst (H := H) (n := 3) (p := a) (Bs := ps.map fun b => [b]) A.out (by rw [List.length_map, A.len]; omega) (by simp) fun i x B hx hB => by
    rw [List.getElem?_map] at hx hB
    obtain ⟨b, eb, rfl⟩ := Option.map_eq_some_iff.mp hx
    rw [eb] at hB
    cases hB
    have t := MkV.lst (H := H) (n := 2) (p := b) (Bs := (rowV m (g i)).map fun _ => []) (A.row i b eb) (by rw [rowV_len]; omega) (by rw [List.length_map]) fun j x B hx hB => by
      have hj := (List.getElem?_eq_some_iff.mp hx).1
      rw [rowV_len] at hj
      rw [List.getElem?_map, rowV_get hj] at hB
      rw [rowV_get hj] at hx
      cases hx
      cases hB
      exact .flat rfl rfl
    have e : ((rowV m (g i)).map fun _ => ([] : List Addr)).flatten = [] := by
      generalize rowV m (g i) = l
      induction l with
      | nil => rfl
      | cons b bs ih => rw [List.map_cons, List.flatten_cons, ih]; rfl
    rwa [e] at t
  rwa [flat_sing] at q
theorem PapAt.marks (A : PapAt H p st tb rs xss ps n m g) (z1 : xss.length ≤ 20) (z2 : ∀ xs ∈ xss, xs.length ≤ 20) (z3 : n ≤ 20) (z4 : m ≤ 20) : MkV H 5 (.ref p) ((st :: rs.map (·.1)) ++ (tb :: ps)) := by
  have rl := A.stm.row.length
  have q := MkV.tup (H := H) (n := 4) (p := p) (Bs := [st :: rs.map (·.1), tb :: ps]) A.out (by simp) rfl fun j x B hx hB => by
    match j with
    | 0 => cases hx; cases hB; exact MkV.str A.stm (by walk_at "om") z2
    | 1 => cases hx; cases hB; exact MkV.gridF A.tab z3 z4
    | j + 2 => simp at hx
  simpa using q
end
-- @@split
/-! ### papers turned and scaled -/
/-- a new paper: its lists are new, and none of them is another -/
structure PapN (H H' : Hp) (p st tb : Addr) (rs : List (Addr × List Addr)) (xss : List (List Fl)) (ps : List Addr) (n m : Nat) (g : Nat → Nat → Int) : Prop where
  pap : PapAt H' p st tb rs xss ps n m g
  nd : ((st :: rs.map (·.1)) ++ (tb :: ps)).Nodup
  fr : ∀ a ∈ (st :: rs.map (·.1)) ++ (tb :: ps), H a = none
  fp : H p = none
/-- rows copied -/
theorem rows_copied {H H1 : Hp} {st acc : Addr} {rs : List (Addr × List Addr)} {xss : List (List Fl)} {qs : List Addr} (S : StR H st rs xss) (F : FreshL H H1 acc qs rs.length fun i => .lst (((rs.map (·.2)).getD i []).map V.ref)) : StR H1 acc (qs.zip (rs.map (·.2))) xss ∧ (qs.zip (rs.map (·.2))).map (·.1) = qs := by
  have fl := F.len
  have sl := S.row.length
  have e1 : (qs.zip (rs.map (·.2))).map (·.1) = qs := List.map_fst_zip (by rw [List.length_map]; omega)
  refine ⟨⟨?_, ?_⟩, e1⟩
  · rw [F.out]
    congr 2
    have : (qs.zip (rs.map (·.2))).map (fun r => V.ref r.1) = ((qs.zip (rs.map (·.2))).map (·.1)).map V.ref := by rw [List.map_map]; rfl
    rw [this, e1]
  · refine paired_of (by rw [List.length_zip, List.length_map]; omega) fun i r xs q1 q2 => ?_
    obtain ⟨z1, z2⟩ := List.getElem?_zip_eq_some.mp q1
    rw [List.getElem?_map] at z2
    obtain ⟨r0, e0, e0'⟩ := Option.map_eq_some_iff.mp z2
    have R := paired_at S.row i r0 xs e0 q2
    have w := (F.row i r.1 z1).2
    have eg : (rs.map (·.2)).getD i [] = r.2 := by rw [List.getD_eq_getElem?_getD, List.getElem?_map, e0]; exact e0'
    rw [eg] at w
    refine ⟨w, ?_⟩
    rw [← e0']
    exact paired_mono (fun _ _ h => F.same _ _ h) R.row
@[irreducible] def sp_paper_times : Sp := fun vs H Q _ => ∃ (p st tb : Addr) (rs : List (Addr × List Addr)) (xss : List (List Fl)) (ps : List Addr) (n m : Nat) (g : Nat → Nat → Int) (k : Int), vs = [.ref p, .int k] ∧ PapAt H p st tb rs xss ps n m g ∧ OkP xss n m g ∧ -(10 ^ 30) ≤ k ∧ k ≤ 10 ^ 30 ∧
  ∀ p' st' tb' rs' ps' H', Same H H' → PapN H H' p' st' tb' rs' xss ps' n m (fun x y => g x y * k) → Q (.ref p') H'
theorem paper_times_rd {H : Hp} {p st tb : Addr} {rs : List (Addr × List Addr)} {xss : List (List Fl)} {ps : List Addr} {n m : Nat} {g : Nat → Nat → Int} {k : Int} {Q : VK} {E : XK} (A : PapAt H p st tb rs xss ps n m g) (O : OkP xss n m g) (h1 : -(10 ^ 30) ≤ k) (h2 : k ≤ 10 ^ 30)
    (q : ∀ p' st' tb' rs' ps' H', Same H H' → PapN H H' p' st' tb' rs' xss ps' n m (fun x y => g x y * k) → Q (.ref p') H') : sp_paper_times [.ref p, .int k] H Q E := by
  unfold sp_paper_times; exact ⟨p, st, tb, rs, xss, ps, n, m, g, k, rfl, A, O, h1, h2, q⟩
theorem ok_paper_times {f : Addr} {fd : FuncData} (F : Fun K "paper_times" "paper_times" s_paper_times f fd) (N : Nm mg) (D_table_times : Def P w K mg base CX0 2 "table_times" ["rows", "many"] sp_table_times) : FnOk P w K mg base CX0 3 f fd ["paper", "many"] sp_paper_times := by
  refine F.ok sc_paper_times (fun vs H Q E h => by unfold sp_paper_times at h; obtain ⟨_, _, _, _, _, _, _, _, _, _, rfl, _⟩ := h; rfl) (fun cdv A outer s H vs Q E hr h => ?_)
  unfold sp_paper_times at h
  obtain ⟨p, st, tb, rs, xss, ps, n, m, g, k, rfl, PA, O, h1, h2, q⟩ := h
  obtain ⟨o1, o2, o3, o4, o5⟩ := O
  have sl := PA.stm.row.length
  refine ⟨_, (pss_one (ps_ret (peTup (pa_cons (peComp (N := ["row"]) (ks := [none]) (piSeqK (K := K) rfl (peIxK (K := K) rfl (pq 0) pe_int)) (fun cl C s3 H3 fp => (pg_name (i := 0) nb_2 rfl (by first | exact Or.inl rfl | exact Or.inr rfl))) (fun cl C s3 H3 fp => pts_nil) (fun cl C s3 H3 fp => (pT (cListK (K := K) rfl) N.list_ bt_list (pa_cons (pq 0) pa_nil))) (.skip .nil)) (pa_cons (pD D_table_times hr pass0 (pa_cons (peIxK (K := K) rfl (pq 0) pe_int) (pa_cons (pq 1) pa_nil))) pa_nil))))), ?_⟩
  refine ixT_rd (v := .ref st) PA.out rfl ?_
  refine iterL_rd PA.stm.out ?_
  refine comp_F (n := (rs.map fun r => V.ref r.1).length) (Wk.list (SqL.of PA.stm.out)) (by rw [List.length_map, sizeLine_eq]; omega) (fun i => .lst (((rs.map (·.2)).getD i []).map V.ref)) (fun j σ => ∃ t : Option V, σ = [t]) ⟨none, rfl⟩ ?_ ?_
  · rintro j v σ H1 R S hj s1 hx ⟨t, rfl⟩ k'
    rw [List.getElem?_map] at hx
    obtain ⟨r, er, rfl⟩ := Option.map_eq_some_iff.mp hx
    obtain ⟨y, ey⟩ : ∃ y, xss[j]? = some y := ⟨xss[j]'(by have := (List.getElem?_eq_some_iff.mp er).1; omega), List.getElem?_eq_getElem _⟩
    have R0 := paired_at PA.stm.row j r y er ey
    have eg : (rs.map (·.2)).getD j [] = r.2 := by rw [List.getD_eq_getElem?_getD, List.getElem?_map, er]; rfl
    rw [eg] at k'
    refine br_T ?_
    refine listL_rd (SqL.of (s1 _ _ R0.out)) (fun q2 H2 f2 s2 h2 => ?_)
    walk_at "wh"
    exact k' _ _ _ f2 s2 h2 ⟨_, rfl⟩
  · intro acc qs H1 F1
    rw [List.length_map] at F1
    obtain ⟨C1, C2⟩ := rows_copied PA.stm F1
    refine ixT_rd (v := .ref tb) (F1.same _ _ PA.out) rfl ?_
    refine table_times_rd (PA.tab.same F1.same) (by walk_at "om") (by walk_at "om") o5 h1 h2 (fun t2 qs2 H2 F2 => ?_)
    refine newT_rd (fun p3 H3 f3 s3 h3 => ?_)
    walk_at "wh"
    have s13 := F2.same.trans s3
    refine q p3 acc t2 _ qs2 H3 (F1.same.trans s13) ⟨⟨h3, C1.same s13, ⟨s3 _ _ F2.out, F2.len, fun i p e => s3 _ _ (F2.row i p e).2⟩⟩, ?_, ?_, F1.same.free (F2.same.free f3)⟩
    · rw [C2]
      have d1 : ∀ a ∈ acc :: qs, ∃ o, H1 a = some o := fun a ha => by
        rcases List.mem_cons.mp ha with rfl | ha
        · exact ⟨_, F1.out⟩
        · obtain ⟨i, hi⟩ := List.getElem?_of_mem ha
          exact ⟨_, (F1.row i a hi).2⟩
      have d2 : ∀ a ∈ t2 :: qs2, H1 a = none := fun a ha => by
        rcases List.mem_cons.mp ha with rfl | ha
        · exact F2.facc
        · exact F2.free ha
      refine List.nodup_append.mpr ⟨List.nodup_cons.mpr ⟨F1.nin, F1.nd⟩, List.nodup_cons.mpr ⟨F2.nin, F2.nd⟩, fun a ha b hb e => ?_⟩
      obtain ⟨o, eo⟩ := d1 a ha
      rw [e, d2 b hb] at eo
      cases eo
    · rw [C2]
      intro a ha
      rcases List.mem_append.mp ha with ha | ha
      · rcases List.mem_cons.mp ha with rfl | ha
        · exact F1.facc
        · exact F1.free ha
      · rcases List.mem_cons.mp ha with rfl | ha
        · exact F1.same.free F2.facc
        · exact F1.same.free (F2.free ha)
@[irreducible] def sp_paper_exchanged : Sp := fun vs H Q _ => ∃ (p st tb : Addr) (rs : List (Addr × List Addr)) (xss : List (List Fl)) (ps : List Addr) (n m : Nat) (g : Nat → Nat → Int), vs = [.ref p] ∧ PapAt H p st tb rs xss ps n m g ∧ OkP xss n m g ∧
  ∀ p' st' tb' rs' ps' H', Same H H' → PapN H H' p' st' tb' rs' xss ps' n m (fun x y => g x y * -1) → Q (.ref p') H'
theorem paper_exchanged_rd {H : Hp} {p st tb : Addr} {rs : List (Addr × List Addr)} {xss : List (List Fl)} {ps : List Addr} {n m : Nat} {g : Nat → Nat → Int} {Q : VK} {E : XK} (A : PapAt H p st tb rs xss ps n m g) (O : OkP xss n m g)
    (q : ∀ p' st' tb' rs' ps' H', Same H H' → PapN H H' p' st' tb' rs' xss ps' n m (fun x y => g x y * -1) → Q (.ref p') H') : sp_paper_exchanged [.ref p] H Q E := by
  unfold sp_paper_exchanged; exact ⟨p, st, tb, rs, xss, ps, n, m, g, rfl, A, O, q⟩
theorem ok_paper_exchanged {f : Addr} {fd : FuncData} (F : Fun K "paper_exchanged" "paper_exchanged" s_paper_exchanged f fd) (N : Nm mg) (D_paper_times : Def P w K mg base CX0 3 "paper_times" ["paper", "many"] sp_paper_times) : FnOk P w K mg base CX0 4 f fd ["paper"] sp_paper_exchanged := by
  refine F.ok sc_paper_exchanged (fun vs H Q E h => by unfold sp_paper_exchanged at h; obtain ⟨_, _, _, _, _, _, _, _, _, rfl, _⟩ := h; rfl) (fun cdv A outer s H vs Q E hr h => ?_)
  unfold sp_paper_exchanged at h
  obtain ⟨p, st, tb, rs, xss, ps, n, m, g, rfl, PA, O, q⟩ := h
  refine ⟨_, (pss_one (ps_ret (pD D_paper_times hr pass0 (pa_cons (pq 0) (pa_cons (pe_un uNeg pe_int) pa_nil))))), ?_⟩
  refine paper_times_rd PA O (by decide) (by decide) (fun p' st' tb' rs' ps' H' s' N' => ?_)
  walk_at "wh"
  exact q _ _ _ _ _ _ s' N'
@[irreducible] def sp_paper_scaled (a_NoNumber : Addr) : Sp := fun vs H Q E => ∃ (p st tb : Addr) (rs : List (Addr × List Addr)) (xss : List (List Fl)) (ps : List Addr) (n m : Nat) (g : Nat → Nat → Int) (k : Int), vs = [.ref p, .int k] ∧ PapAt H p st tb rs xss ps n m g ∧ OkP xss n m g ∧ k ≤ 10 ^ 30 ∧
  (1 ≤ k → ∀ p' st' tb' rs' ps' H', Same H H' → PapN H H' p' st' tb' rs' xss ps' n m (fun x y => g x y * k) → Q (.ref p') H') ∧ (k < 1 → E (.ref a_NoNumber) none H)
theorem paper_scaled_rd {a_NoNumber : Addr} {H : Hp} {p st tb : Addr} {rs : List (Addr × List Addr)} {xss : List (List Fl)} {ps : List Addr} {n m : Nat} {g : Nat → Nat → Int} {k : Int} {Q : VK} {E : XK} (A : PapAt H p st tb rs xss ps n m g) (O : OkP xss n m g) (h1 : 1 ≤ k) (h2 : k ≤ 10 ^ 30)
    (q : ∀ p' st' tb' rs' ps' H', Same H H' → PapN H H' p' st' tb' rs' xss ps' n m (fun x y => g x y * k) → Q (.ref p') H') : sp_paper_scaled a_NoNumber [.ref p, .int k] H Q E := by
  unfold sp_paper_scaled; exact ⟨p, st, tb, rs, xss, ps, n, m, g, k, rfl, A, O, h2, fun _ => q, fun z => by walk_at "om"⟩
theorem paper_scaledE_rd {a_NoNumber : Addr} {H : Hp} {p st tb : Addr} {rs : List (Addr × List Addr)} {xss : List (List Fl)} {ps : List Addr} {n m : Nat} {g : Nat → Nat → Int} {k : Int} {Q : VK} {E : XK} (A : PapAt H p st tb rs xss ps n m g) (O : OkP xss n m g) (h1 : k < 1)
    (q : E (.ref a_NoNumber) none H) : sp_paper_scaled a_NoNumber [.ref p, .int k] H Q E := by
  unfold sp_paper_scaled; exact ⟨p, st, tb, rs, xss, ps, n, m, g, k, rfl, A, O, by walk_at "om", fun z => by walk_at "om", fun _ => q⟩
theorem ok_paper_scaled {f : Addr} {fd : FuncData} (F : Fun K "paper_scaled" "paper_scaled" s_paper_scaled f fd) (N : Nm mg) (D_look_many : Def P w K mg base (CXR P w) 3 "look_many" ["many"] (sp_look_many a_NoNumber)) (D_paper_times : Def P w K mg base CX0 3 "paper_times" ["paper", "many"] sp_paper_times) : FnOk P w K mg base (CXR P w) 4 f fd ["paper", "many"] (sp_paper_scaled a_NoNumber) := by
  refine F.okR sc_paper_scaled (fun vs H Q E h => by unfold sp_paper_scaled at h; obtain ⟨_, _, _, _, _, _, _, _, _, _, rfl, _⟩ := h; rfl) (fun cdv A outer s H vs Q E hr hX h => ?_)
  unfold sp_paper_scaled at h
  obtain ⟨p, st, tb, rs, xss, ps, n, m, g, k, rfl, PA, O, h2, q1, q2⟩ := h
  refine ⟨_, (pss_cons (ps_expr (pD D_look_many hr (passR hX) (pa_cons (pq 1) pa_nil)))
      (pss_one (ps_ret (pD D_paper_times hr pass0 (pa_cons (pq 0) (pa_cons (pq 1) pa_nil)))))), ?_⟩
  refine look_many_rd (fun e => ?_) (fun e => ?_)
  · walk_at "wh"
    refine paper_times_rd PA O (by walk_at "om") h2 (fun p' st' tb' rs' ps' H' s' N' => ?_)
    walk_at "wh"
    exact q1 e _ _ _ _ _ _ s' N'
  · walk_at "wh"
    exact q2 e
@[irreducible] def sp__law_changed : Sp := fun vs H Q E => ∃ (w : Int) (p st tb : Addr) (rs : List (Addr × List Addr)) (xss : List (List Fl)) (ps : List Addr) (n m : Nat) (g : Nat → Nat → Int) (k : Int), vs = [.int w, .ref p, .int k] ∧ PapAt H p st tb rs xss ps n m g ∧ OkP xss n m g ∧ 1 ≤ k ∧ k ≤ 10 ^ 30 ∧
  ∀ p' st' tb' rs' ps' H', Same H H' → PapN H H' p' st' tb' rs' xss ps' n m (fun x y => g x y * if w = 0 then -1 else k) → Q (.ref p') H'
theorem changed_rd {H : Hp} {w : Int} {p st tb : Addr} {rs : List (Addr × List Addr)} {xss : List (List Fl)} {ps : List Addr} {n m : Nat} {g : Nat → Nat → Int} {k : Int} {Q : VK} {E : XK} (A : PapAt H p st tb rs xss ps n m g) (O : OkP xss n m g) (h1 : 1 ≤ k) (h2 : k ≤ 10 ^ 30)
    (q : ∀ p' st' tb' rs' ps' H', Same H H' → PapN H H' p' st' tb' rs' xss ps' n m (fun x y => g x y * if w = 0 then -1 else k) → Q (.ref p') H') : sp__law_changed [.int w, .ref p, .int k] H Q E := by
  unfold sp__law_changed; exact ⟨w, p, st, tb, rs, xss, ps, n, m, g, k, rfl, A, O, h1, h2, q⟩
theorem ok__law_changed {f : Addr} {fd : FuncData} (F : Fun K "_law_changed" "_law_changed" s__law_changed f fd) (N : Nm mg) (D_paper_exchanged : Def P w K mg base CX0 4 "paper_exchanged" ["paper"] sp_paper_exchanged) (D_paper_scaled : Def P w K mg base (CXR P w) 4 "paper_scaled" ["paper", "many"] (sp_paper_scaled a_NoNumber)) : FnOk P w K mg base CX0 5 f fd ["_law_way", "_law_paper", "_law_many"] sp__law_changed := by
  refine F.ok sc__law_changed (fun vs H Q E h => by unfold sp__law_changed at h; obtain ⟨_, _, _, _, _, _, _, _, _, _, _, rfl, _⟩ := h; rfl) (fun cdv A outer s H vs Q E hr h => ?_)
  unfold sp__law_changed at h
  obtain ⟨w, p, st, tb, rs, xss, ps, n, m, g, k, rfl, PA, O, h1, h2, q⟩ := h
  have hu := hu40 hr
  refine ⟨_, (pss_cons (psIf (ptC (oEqK (K := K) rfl (by exact hu)) (pq 0) pe_int) (pss_one (ps_ret (pD D_paper_exchanged hr pass0 (pa_cons (pq 1) pa_nil)))) pss_nil)
      (pss_one (ps_ret (pD D_paper_scaled hr passR0 (pa_cons (pq 1) (pa_cons (pq 2) pa_nil)))))), ?_⟩
  refine br_dec (fun e => ?_) (fun e => ?_)
  · walk_at "wh"
    refine paper_exchanged_rd PA O (fun p' st' tb' rs' ps' H' s' N' => ?_)
    walk_at "wh"
    rw [if_pos e] at q
    exact q _ _ _ _ _ _ s' N'
  · walk_at "wh"
    refine paper_scaled_rd PA O h1 h2 (fun p' st' tb' rs' ps' H' s' N' => ?_)
    walk_at "wh"
    rw [if_neg e] at q
    exact q _ _ _ _ _ _ s' N'
-- @@split
@[irreducible] def sp__law_kind_of (a_NoNumber : Addr) : Sp := fun vs H Q _ => ∃ e : Addr, vs = [.ref e] ∧ H e = some (excO e (.ref a_NoNumber) none) ∧ ∀ H', Same H H' → Q (.str "number") H'
theorem kind_rd {a_NoNumber : Addr} {H : Hp} {e : Addr} {Q : VK} {E : XK} (h : H e = some (excO e (.ref a_NoNumber) none)) (q : ∀ H', Same H H' → Q (.str "number") H') : sp__law_kind_of a_NoNumber [.ref e] H Q E := by unfold sp__law_kind_of; exact ⟨e, rfl, h, q⟩
theorem ok__law_kind_of {f : Addr} {fd : FuncData} (F : Fun K "_law_kind_of" "_law_kind_of" s__law_kind_of f fd) (N : Nm mg) (Z : Cz K mg base a_HostError a_NoBattle a_NoPlan a_NoMix a_NoStream a_NoSide a_NoAlike a_NoNumber a_TooGreat a_NoEven a_NoText a_NoRow a_NoName a_NoPlace) : FnOk P w K mg base CX0 1 f fd ["_law_caught"] (sp__law_kind_of a_NoNumber) := by
  refine F.ok sc__law_kind_of (fun vs H Q E h => by unfold sp__law_kind_of at h; obtain ⟨_, rfl, _⟩ := h; rfl) (fun cdv A outer s H vs Q E hr h => ?_)
  unfold sp__law_kind_of at h
  obtain ⟨e, rfl, he, q⟩ := h
  have hu := hu40 hr
  refine ⟨_, (pssTo (pssI_cons (psOf (psS (i := 1) sc__law_kind_of.nd (peLst (pa_cons (pB (cIsiX (K := K) rfl) N.isinstance_ bt_isinstance (pa_cons (pq 0) (pa_cons (pe_glob (v := .ref a_NoBattle) rfl Z.g_NoBattle rfl) pa_nil))) (pa_cons (pB (cIsiX (K := K) rfl) N.isinstance_ bt_isinstance (pa_cons (pq 0) (pa_cons (pe_glob (v := .ref a_NoPlan) rfl Z.g_NoPlan rfl) pa_nil))) (pa_cons (pB (cIsiX (K := K) rfl) N.isinstance_ bt_isinstance (pa_cons (pq 0) (pa_cons (pe_glob (v := .ref a_NoMix) rfl Z.g_NoMix rfl) pa_nil))) pa_nil))))))
      (pssI_cons (psOf (psS (i := 1) sc__law_kind_of.nd (pe_op oAdd (pq 1) (peLst (pa_cons (pB (cIsiX (K := K) rfl) N.isinstance_ bt_isinstance (pa_cons (pq 0) (pa_cons (pe_glob (v := .ref a_NoStream) rfl Z.g_NoStream rfl) pa_nil))) (pa_cons (pB (cIsiX (K := K) rfl) N.isinstance_ bt_isinstance (pa_cons (pq 0) (pa_cons (pe_glob (v := .ref a_NoSide) rfl Z.g_NoSide rfl) pa_nil))) (pa_cons (pB (cIsiX (K := K) rfl) N.isinstance_ bt_isinstance (pa_cons (pq 0) (pa_cons (pe_glob (v := .ref a_NoAlike) rfl Z.g_NoAlike rfl) pa_nil))) pa_nil)))))))
      (pssI_cons (psOf (psS (i := 1) sc__law_kind_of.nd (pe_op oAdd (pq 1) (peLst (pa_cons (pB (cIsiX (K := K) rfl) N.isinstance_ bt_isinstance (pa_cons (pq 0) (pa_cons (pe_glob (v := .ref a_NoNumber) rfl Z.g_NoNumber rfl) pa_nil))) (pa_cons (pB (cIsiX (K := K) rfl) N.isinstance_ bt_isinstance (pa_cons (pq 0) (pa_cons (pe_glob (v := .ref a_TooGreat) rfl Z.g_TooGreat rfl) pa_nil))) (pa_cons (pB (cIsiX (K := K) rfl) N.isinstance_ bt_isinstance (pa_cons (pq 0) (pa_cons (pe_glob (v := .ref a_NoEven) rfl Z.g_NoEven rfl) pa_nil))) pa_nil)))))))
      (pssI_cons (psOf (psS (i := 1) sc__law_kind_of.nd (pe_op oAdd (pq 1) (peLst (pa_cons (pB (cIsiX (K := K) rfl) N.isinstance_ bt_isinstance (pa_cons (pq 0) (pa_cons (pe_glob (v := .ref a_NoText) rfl Z.g_NoText rfl) pa_nil))) (pa_cons (pB (cIsiX (K := K) rfl) N.isinstance_ bt_isinstance (pa_cons (pq 0) (pa_cons (pe_glob (v := .ref a_NoRow) rfl Z.g_NoRow rfl) pa_nil))) (pa_cons (pB (cIsiX (K := K) rfl) N.isinstance_ bt_isinstance (pa_cons (pq 0) (pa_cons (pe_glob (v := .ref a_NoName) rfl Z.g_NoName rfl) pa_nil))) pa_nil)))))))
      (pssI_cons (psOf (psS (i := 1) sc__law_kind_of.nd (pe_op oAdd (pq 1) (peLst (pa_cons (pB (cIsiX (K := K) rfl) N.isinstance_ bt_isinstance (pa_cons (pq 0) (pa_cons (pe_glob (v := .ref a_NoPlace) rfl Z.g_NoPlace rfl) pa_nil))) pa_nil)))))
      (pssI_cons (psIS (i := 2) sc__law_kind_of.nd (peILst (paI_cons peI_str (paI_cons peI_str (paI_cons peI_str (paI_cons peI_str (paI_cons peI_str (paI_cons peI_str (paI_cons peI_str (paI_cons peI_str (paI_cons peI_str (paI_cons peI_str (paI_cons peI_str (paI_cons peI_str paI_nil))))))))))))))
      (pssI_cons (psOf (psIf (ptC oIs (pq 0) pe_non) (pss_one (ps_ret pe_str)) pss_nil))
      (pssI_cons (psOf (psIf (ptW (pwOr (pt_not (ptV (pB (cIsiX (K := K) rfl) N.isinstance_ bt_isinstance (pa_cons (pq 0) (pa_cons (pe_glob (v := .ref a_HostError) rfl Z.g_HostError rfl) pa_nil))))) (pwOr (pt_not (ptV (pB (cIsiX (K := K) rfl) N.isinstance_ bt_isinstance (pa_cons (pq 0) (pa_cons (pTy N.ValueError_ bt_ValueError) pa_nil))))) (pw_or1 (ptC (oNeK (K := K) rfl (by exact hu)) (peM_count (K := K) rfl (pq 1) (pa_cons pe_bl pa_nil)) pe_int))))) (pss_one (ps_ret pe_str)) pss_nil))
      (pssI_one (psOf (ps_ret (peIxK (K := K) rfl (pe_op oAdd (pq 2) (peLst (pa_cons pe_str pa_nil))) (peM_index (K := K) rfl (pq 1) (pa_cons pe_bl pa_nil))))))))))))))), ?_⟩
  refine isiE_rd (D := a_NoNumber) he Z.k_NoNumber Z.c_NoNumber Z.i_NoNumber_NoBattle ?_
  refine isiE_rd (D := a_NoNumber) he Z.k_NoNumber Z.c_NoNumber Z.i_NoNumber_NoPlan ?_
  refine isiE_rd (D := a_NoNumber) he Z.k_NoNumber Z.c_NoNumber Z.i_NoNumber_NoMix ?_
  refine newL_rd (fun p1 H1 f1 s1 h1 => ?_)
  have he1 := s1 _ _ he
  refine isiE_rd (D := a_NoNumber) he1 Z.k_NoNumber Z.c_NoNumber Z.i_NoNumber_NoStream ?_
  refine isiE_rd (D := a_NoNumber) he1 Z.k_NoNumber Z.c_NoNumber Z.i_NoNumber_NoSide ?_
  refine isiE_rd (D := a_NoNumber) he1 Z.k_NoNumber Z.c_NoNumber Z.i_NoNumber_NoAlike ?_
  refine newL_rd (fun p2 H2 f2 s2 h2 => ?_)
  refine cat_rd (s2 _ _ h1) h2 (by rw [sizeLine_eq]; simp) (fun p3 H3 f3 s3 h3 => ?_)
  have he3 := s3 _ _ (s2 _ _ he1)
  refine isiE_rd (D := a_NoNumber) he3 Z.k_NoNumber Z.c_NoNumber Z.i_NoNumber_NoNumber ?_
  refine isiE_rd (D := a_NoNumber) he3 Z.k_NoNumber Z.c_NoNumber Z.i_NoNumber_TooGreat ?_
  refine isiE_rd (D := a_NoNumber) he3 Z.k_NoNumber Z.c_NoNumber Z.i_NoNumber_NoEven ?_
  refine newL_rd (fun p4 H4 f4 s4 h4 => ?_)
  refine cat_rd (s4 _ _ h3) h4 (by rw [sizeLine_eq]; simp) (fun p5 H5 f5 s5 h5 => ?_)
  have he5 := s5 _ _ (s4 _ _ he3)
  refine isiE_rd (D := a_NoNumber) he5 Z.k_NoNumber Z.c_NoNumber Z.i_NoNumber_NoText ?_
  refine isiE_rd (D := a_NoNumber) he5 Z.k_NoNumber Z.c_NoNumber Z.i_NoNumber_NoRow ?_
  refine isiE_rd (D := a_NoNumber) he5 Z.k_NoNumber Z.c_NoNumber Z.i_NoNumber_NoName ?_
  refine newL_rd (fun p6 H6 f6 s6 h6 => ?_)
  refine cat_rd (s6 _ _ h5) h6 (by rw [sizeLine_eq]; simp) (fun p7 H7 f7 s7 h7 => ?_)
  have he7 := s7 _ _ (s6 _ _ he5)
  refine isiE_rd (D := a_NoNumber) he7 Z.k_NoNumber Z.c_NoNumber Z.i_NoNumber_NoPlace ?_
  refine newL_rd (fun p8 H8 f8 s8 h8 => ?_)
  refine cat_rd (s8 _ _ h7) h8 (by rw [sizeLine_eq]; simp) (fun p9 H9 f9 s9 h9 => ?_)
  have h9 : H9 p9 = some (.lst [.bl false, .bl false, .bl false, .bl false, .bl false, .bl false, .bl true, .bl false, .bl false, .bl false, .bl false, .bl false, .bl false]) := h9
  refine newL_rd (fun pa Ha fa sa ha => ?_)
  have s09 : Same H Ha := ((((((((s1.trans s2).trans s3).trans s4).trans s5).trans s6).trans s7).trans s8).trans s9).trans sa
  have he9 := s09 _ _ he
  refine br_F ?_
  refine isiE_rd (D := a_NoNumber) he9 Z.k_NoNumber Z.c_NoNumber Z.i_NoNumber_HostError ?_
  refine br_not (br_T ?_)
  refine isiET_rd (D := a_NoNumber) he9 Z.k_NoNumber Z.c_NoNumber Z.v_NoNumber ?_
  refine br_not (br_T ?_)
  refine lst_is (sa _ _ h9) ?_
  refine cnt_rd (sa _ _ h9) rfl rfl ?_
  refine br_not (br_dT rfl ?_)
  refine newL_rd (fun pb Hb fb sb hb => ?_)
  refine cat_rd (sb _ _ ha) hb (by rw [sizeLine_eq]; simp) (fun pc Hc fc sc hc => ?_)
  have sac := sb.trans sc
  refine lst_is (sac _ _ (sa _ _ h9)) ?_
  refine idx_rd 6 (sac _ _ (sa _ _ h9)) rfl rfl ⟨_, rfl, rfl⟩ ?_ ?_
  · intro m y hm hy
    match m, hm with
    | 0, _ => cases hy; rfl
    | 1, _ => cases hy; rfl
    | 2, _ => cases hy; rfl
    | 3, _ => cases hy; rfl
    | 4, _ => cases hy; rfl
    | 5, _ => cases hy; rfl
  refine ixL_rd (v := .str "number") hc (by rfl) ?_
  walk_at "wh"
  exact q _ (s09.trans sac)
-- @@split
@[irreducible] def sp__law_stirred : Sp := fun vs H Q _ => ∃ n k : Int, vs = [.int n, .int k] ∧ 0 ≤ n ∧ n < 2147483629 ∧ 0 ≤ k ∧ k ≤ 10000000 ∧ ∀ r : Int, 0 ≤ r → r < 2147483587 → Q (.int r) H
theorem stirred_rd {H : Hp} {n k : Int} {Q : VK} {E : XK} (h0 : 0 ≤ n) (h1 : n < 2147483629) (h2 : 0 ≤ k) (h3 : k ≤ 10000000) (q : ∀ r : Int, 0 ≤ r → r < 2147483587 → Q (.int r) H) : sp__law_stirred [.int n, .int k] H Q E := by
  unfold sp__law_stirred; exact ⟨n, k, rfl, h0, h1, h2, h3, q⟩
theorem ok__law_stirred {f : Addr} {fd : FuncData} (F : Fun K "_law_stirred" "_law_stirred" s__law_stirred f fd) (N : Nm mg) : FnOk P w K mg base CX0 1 f fd ["_law_number", "_law_k"] sp__law_stirred := by
  refine F.ok sc__law_stirred (fun vs H Q E h => by unfold sp__law_stirred at h; obtain ⟨n, k, rfl, _⟩ := h; rfl) (fun cdv A outer s H vs Q E hr h => ?_)
  unfold sp__law_stirred at h
  obtain ⟨n, k, rfl, h1, h2, h3, h4, q⟩ := h
  refine ⟨_, (pss_cons (psS (i := 2) sc__law_stirred.nd (pe_op oMod (pe_op oMul (pe_op oAdd (pe_op oAdd (pe_op oMul (pq 0) (pq 0)) (pe_op oMul (pq 1) (pq 0))) (pe_op oMul (pe_op oMul pe_int (pq 1)) (pq 1))) pe_int) pe_int))
      (pss_one (ps_ret (pe_op oMod (pe_op oMul (pq 2) (pq 2)) pe_int)))), ?_⟩
  repeat walk_at "st"
  walk_at "wh"
  exact q _ (by assumption) (by assumption)
/-- a list that is drawn from: its number, its kind, how often -/
def LeftAt (H : Hp) (a : Addr) (b : Int) : Prop := ∃ x y z : Int, H a = some (.lst [.int x, .int y, .int z]) ∧ (y = 1 ∨ (y = 0 ∧ 0 ≤ x ∧ x < 2147483629)) ∧ 0 ≤ z ∧ z ≤ b
theorem LeftAt.same {H H' : Hp} {a : Addr} {b : Int} (h : LeftAt H a b) (s : Same H H') : LeftAt H' a b := by
  obtain ⟨x, y, z, e, r⟩ := h
  exact ⟨x, y, z, s _ _ e, r⟩
local macro_rules | `(tactic| walk_at "la") => `(tactic| first | assumption | (refine LeftAt.same (H := ?H) ?l ?s; (case s => assumption); (case l => walk_at "la")) | fail "la")
theorem LeftAt.up {H : Hp} {a : Addr} {b c : Int} (h : LeftAt H a b) (l : b ≤ c) : LeftAt H a c := by
  obtain ⟨x, y, z, e1, e2, e3, e4⟩ := h
  exact ⟨x, y, z, e1, e2, e3, by walk_at "om"⟩
theorem LeftAt.ne {H : Hp} {a p : Addr} {b : Int} (h : LeftAt H a b) (f : H p = none) : p ≠ a := by
  obtain ⟨x, y, z, e, _⟩ := h
  exact Ne.symm (ne_of_none e f)
local macro_rules | `(tactic| walk_at "ne") => `(tactic| first | assumption | (apply Ne.symm; assumption) | (refine LeftAt.ne (H := ?H) (b := ?b) ?l ?f; (case f => assumption); (case l => walk_at "la")) | fail "ne")
@[irreducible] def sp__law_opened : Sp := fun vs H Q _ => ∃ c : Int, vs = [.int c] ∧ ∀ p H', H p = none → Same H H' → LeftAt H' p 0 → Q (.ref p) H'
theorem opened_rd {H : Hp} {c : Int} {Q : VK} {E : XK} (q : ∀ p H', H p = none → Same H H' → LeftAt H' p 0 → Q (.ref p) H') : sp__law_opened [.int c] H Q E := by
  unfold sp__law_opened; exact ⟨c, rfl, q⟩
theorem ok__law_opened {f : Addr} {fd : FuncData} (F : Fun K "_law_opened" "_law_opened" s__law_opened f fd) (N : Nm mg) : FnOk P w K mg base CX0 1 f fd ["_law_cell"] sp__law_opened := by
  refine F.ok sc__law_opened (fun vs H Q E h => by unfold sp__law_opened at h; obtain ⟨n, rfl, _⟩ := h; rfl) (fun cdv A outer s H vs Q E hr h => ?_)
  unfold sp__law_opened at h
  obtain ⟨c, rfl, q⟩ := h
  refine ⟨_, (pss_cons (psIf (ptC oLt (pq 0) (pe_op oPow pe_int pe_int)) (pss_one (ps_ret (peLst (pa_cons (pe_op oMod (pq 0) pe_int) (pa_cons pe_int (pa_cons pe_int pa_nil)))))) pss_nil)
      (pss_one (ps_ret (peLst (pa_cons (pe_op oSub (pq 0) (pe_op oPow pe_int pe_int)) (pa_cons pe_int (pa_cons pe_int pa_nil))))))), ?_⟩
  walk_at "st"
  refine br_dec (fun h => ?_) (fun h => ?_)
  · repeat walk_at "st"
    walk_at "wh"
    exact q _ _ (by assumption) (by assumption) ⟨_, _, _, by assumption, .inr ⟨rfl, by assumption, by assumption⟩, by walk_at "om", by walk_at "om"⟩
  · repeat walk_at "st"
    walk_at "wh"
    exact q _ _ (by assumption) (by assumption) ⟨_, _, _, by assumption, .inl rfl, by walk_at "om", by walk_at "om"⟩
@[irreducible] def sp__law_draw : Sp := fun vs H Q _ => ∃ (a : Addr) (m b : Int), vs = [.ref a, .int m] ∧ LeftAt H a b ∧ b ≤ 1000000 ∧ 0 < m ∧ m < 10 ^ 60 ∧ ∀ (d : Int) H', 0 ≤ d → d < m → Chg a H H' → LeftAt H' a (b + 4) → Q (.int d) H'
theorem draw_rd {H : Hp} {a : Addr} {m b : Int} {Q : VK} {E : XK} (hL : LeftAt H a b) (hb : b ≤ 1000000) (h0 : 0 < m) (h1 : m < 10 ^ 60) (q : ∀ (d : Int) H', 0 ≤ d → d < m → Chg a H H' → LeftAt H' a (b + 4) → Q (.int d) H') : sp__law_draw [.ref a, .int m] H Q E := by
  unfold sp__law_draw; exact ⟨a, m, b, rfl, hL, hb, h0, h1, q⟩
theorem ok__law_draw {f : Addr} {fd : FuncData} (F : Fun K "_law_draw" "_law_draw" s__law_draw f fd) (N : Nm mg) (D__law_stirred : Def P w K mg base CX0 1 "_law_stirred" ["_law_number", "_law_k"] sp__law_stirred) : FnOk P w K mg base CX0 2 f fd ["_law_left", "_law_base"] sp__law_draw := by
  refine F.ok sc__law_draw (fun vs H Q E h => by unfold sp__law_draw at h; obtain ⟨a, m, b, rfl, _⟩ := h; rfl) (fun cdv A outer s H vs Q E hr h => ?_)
  unfold sp__law_draw at h
  obtain ⟨a, m, b, rfl, ⟨x, y, z, hl, hy, hz0, hz1⟩, hb, hm0, hm1, q⟩ := h
  have hu := hu40 hr
  refine ⟨_, (pss_cons (psIf (ptC (oEqK (K := K) rfl (by exact hu)) (peIxK (K := K) rfl (pq 0) pe_int) pe_int) (pss_cons (psS (i := 2) sc__law_draw.nd (pe_op oMod (peIxK (K := K) rfl (pq 0) pe_int) (pq 1)))
      (pss_cons (ps_asg (pe_op oDiv (peIxK (K := K) rfl (pq 0) pe_int) (pq 1)) (pg_sub (pq 0) pe_int setM))
      (pss_one (ps_ret (pq 2))))) pss_nil)
      (pss_cons (psS (i := 3) sc__law_draw.nd pe_int)
      (pss_cons (psFor PassesOwn.never rfl (piRng1 N.range_ (pa_cons (peIxK (K := K) rfl (peLst (pa_cons pe_int (pa_cons pe_int pa_nil))) (pT cInt N.int_ bt_int (pa_cons (peC oGt (pq 1) (pe_op oPow pe_int pe_int)) pa_nil))) pa_nil)) (pg_name (i := 4) sc__law_draw.nd rfl (by first | exact Or.inl rfl | exact Or.inr rfl)) (pss_cons (ps_asg (pe_op oAdd (peIxK (K := K) rfl (pq 0) pe_int) pe_int) (pg_sub (pq 0) pe_int setM))
      (pss_cons (psS (i := 5) sc__law_draw.nd (pD D__law_stirred hr pass0 (pa_cons (peIxK (K := K) rfl (pq 0) pe_int) (pa_cons (peIxK (K := K) rfl (pq 0) pe_int) pa_nil))))
      (pss_one (psS (i := 3) sc__law_draw.nd (pe_op oAdd (pe_op oMul (pq 3) pe_int) (pe_op oMod (pe_op oMul (pq 5) (pe_op oAdd (pq 5) pe_int)) pe_int)))))))
      (pss_one (ps_ret (pe_op oMod (pq 3) (pq 1))))))), ?_⟩
  walk_at "st"
  refine br_dec (fun h => ?_) (fun h => ?_)
  · subst h
    walk_at "st"
    walk_at "st"
    walk_at "st"
    walk_at "st"
    refine set_rd hl (by rfl) (fun H1 hc h1 => ?_)
    walk_at "wh"
    exact q _ _ (by assumption) (by assumption) hc ⟨_, _, _, h1, .inl rfl, hz0, by walk_at "om"⟩
  · obtain ⟨rfl, hx0, hx1⟩ : y = 0 ∧ 0 ≤ x ∧ x < 2147483629 := by walk_at "om"
    refine newL_rd (fun p1 H1 hf1 hs1 ha1 => ?_)
    walk_at "st"
    refine ixAny_rd ha1 (by split <;> decide) (by show _ < ((2 : Nat) : Int); split <;> decide) (fun v hv => ?_)
    obtain ⟨j, rfl, hj1, hj4⟩ : ∃ j : Int, v = .int j ∧ 1 ≤ j ∧ j ≤ 4 := by
      simp only [List.mem_cons, List.not_mem_nil, or_false] at hv
      rcases hv with rfl | rfl
      · exact ⟨1, rfl, by decide, by decide⟩
      · exact ⟨4, rfl, by decide, by decide⟩
    refine range_rd (by decide) (by decide) (by walk_at "om") (by walk_at "om") ?_
    refine loop_range (fun i σ H2 => ∃ (num : Int) (t mx : Option V), σ = [some (.ref a), some (.int m), none, some (.int num), t, mx] ∧ 0 ≤ num ∧ Chg a H H2 ∧ H2 a = some (.lst [.int x, .int 0, .int (z + i)])) ?_ ?_ ?_
    · exact ⟨0, none, none, rfl, by decide, hs1.toChg, by rw [hs1 _ _ hl]; simp⟩
    · rintro i σ H2 hi ⟨num, t, mx, rfl, hn, hc, h2⟩
      have hi4 : (i : Int) < 4 := by walk_at "om"
      walk_at "st"
      refine set_rd h2 (by rfl) (fun H3 hc3 h3 => ?_)
      walk_at "st"
      walk_at "st"
      refine stirred_rd hx0 hx1 (by walk_at "om") (by walk_at "om") (fun r hr0 hr1 => ?_)
      walk_at "st"
      walk_at "st"
      walk_at "st"
      walk_at "wh"
      refine ⟨_, _, _, rfl, ?_, hc.trans hc3, ?_⟩
      · rename_i r2 hr20 hr21
        omega
      · rw [h3]
        have e : z + (i : Int) + 1 = z + ((i + 1 : Nat) : Int) := by walk_at "om"
        rw [← e]
        rfl
    · rintro σ H2 ⟨num, t, mx, rfl, hn, hc, h2⟩
      walk_at "st"
      walk_at "wh"
      exact q _ _ (by assumption) (by assumption) hc ⟨_, _, _, h2, .inr ⟨rfl, hx0, hx1⟩, by walk_at "om", by walk_at "om"⟩
theorem Chg.free' {a l : Addr} {H H' : Hp} (x : Chg a H H') (h : H' l = none) (n : l ≠ a) : H l = none := by
  cases e : H l with
  | none => rfl
  | some o =>
    have := x l o n e
    rw [h] at this
    cases this
theorem LeftAt.chg {H H' : Hp} {a p : Addr} {b : Int} (h : LeftAt H a b) (c : Chg p H H') (n : a ≠ p) : LeftAt H' a b := by
  obtain ⟨x, y, z, e, r⟩ := h
  exact ⟨x, y, z, c _ _ n e, r⟩
@[irreducible] def sp__law_drawn_plan : Sp := fun vs H Q _ => ∃ (a : Addr) (b : Int) (h f : Nat), vs = [.ref a, .int h, .int f] ∧ LeftAt H a b ∧ b ≤ 100000 ∧ h ≤ 40 ∧ (1 ≤ f ∧ f ≤ 8) ∧ ∀ l H' (ns : List Int), H l = none → Chg a H H' → LeftAt H' a (b + 100) → l ≠ a → H' l = some (.lst (ns.map V.int)) → ns.length = f → ns.sum = h → (∀ x ∈ ns, 0 ≤ x) → Q (.ref l) H'
theorem drawn_plan_rd {H : Hp} {a : Addr} {b : Int} {h f : Nat} {Q : VK} {E : XK} (hL : LeftAt H a b) (hb : b ≤ 100000) (h1 : h ≤ 40) (h2 : 1 ≤ f) (h3 : f ≤ 8) (q : ∀ l H' (ns : List Int), H l = none → Chg a H H' → LeftAt H' a (b + 100) → l ≠ a → H' l = some (.lst (ns.map V.int)) → ns.length = f → ns.sum = h → (∀ x ∈ ns, 0 ≤ x) → Q (.ref l) H') : sp__law_drawn_plan [.ref a, .int h, .int f] H Q E := by
  unfold sp__law_drawn_plan; exact ⟨a, b, h, f, rfl, hL, hb, h1, ⟨h2, h3⟩, q⟩
theorem ok__law_drawn_plan {f : Addr} {fd : FuncData} (F : Fun K "_law_drawn_plan" "_law_drawn_plan" s__law_drawn_plan f fd) (N : Nm mg) (D__law_draw : Def P w K mg base CX0 2 "_law_draw" ["_law_left", "_law_base"] sp__law_draw) : FnOk P w K mg base CX0 3 f fd ["_law_left", "_law_hosts", "_law_many"] sp__law_drawn_plan := by
  refine F.ok sc__law_drawn_plan (fun vs H Q E h => by unfold sp__law_drawn_plan at h; obtain ⟨_, _, _, _, rfl, _⟩ := h; rfl) (fun cdv A outer s H vs Q E hr h => ?_)
  unfold sp__law_drawn_plan at h
  obtain ⟨a, b, h, f, rfl, hL, hb, h1, ⟨h2, h3⟩, q⟩ := h
  refine ⟨_, (pss_cons (psS (i := 3) sc__law_drawn_plan.nd (peLst pa_nil))
      (pss_cons (psS (i := 4) sc__law_drawn_plan.nd (pq 1))
      (pss_cons (psFor PassesOwn.never rfl (piRng1 N.range_ (pa_cons (pe_op oSub (pq 2) pe_int) pa_nil)) (pg_name (i := 5) sc__law_drawn_plan.nd rfl (by first | exact Or.inl rfl | exact Or.inr rfl)) (pss_cons (psS (i := 6) sc__law_drawn_plan.nd (peIxK (K := K) rfl (peLst (pa_cons (pD D__law_draw hr pass0 (pa_cons (pq 0) (pa_cons (pe_op oAdd (pq 4) pe_int) pa_nil))) (pa_cons pe_int (pa_cons (pq 4) pa_nil)))) (pe_op oDiv (pD D__law_draw hr pass0 (pa_cons (pq 0) (pa_cons pe_int pa_nil))) pe_int)))
      (pss_cons (ps_expr (peM_append (pq 3) (pa_cons (pq 6) pa_nil)))
      (pss_one (psS (i := 4) sc__law_drawn_plan.nd (pe_op oSub (pq 4) (pq 6)))))))
      (pss_one (ps_ret (pe_op oAdd (pq 3) (peLst (pa_cons (pq 4) pa_nil)))))))), ?_⟩
  refine newL_rd (fun l H1 f1 s1 h1' => ?_)
  have n1 : l ≠ a := hL.ne f1
  refine range_rd (by decide) (by decide) (by walk_at "om") (by walk_at "om") ?_
  refine loop_range (fun i σ H2 => ∃ (x y : Option V) (ns : List Int) (r : Int), σ = [some (.ref a), some (.int h), some (.int f), some (.ref l), some (.int r), x, y] ∧ Chg a H H2 ∧ LeftAt H2 a (b + 8 * i) ∧ H2 l = some (.lst (ns.map V.int)) ∧ ns.length = i ∧ ns.sum + r = h ∧ 0 ≤ r ∧ r ≤ 40 ∧ ∀ x ∈ ns, 0 ≤ x) ?_ ?_ ?_
  · exact ⟨_, _, [], h, rfl, s1.toChg, (hL.same s1).up (by walk_at "om"), h1', rfl, by simp, by walk_at "om", by walk_at "om", by simp⟩
  · rintro i σ H2 hi ⟨x0, y0, ns, r, rfl, c2, L2, e2, l2, t2, r0, r1, nn⟩
    have hi : i < 8 := by walk_at "om"
    refine draw_rd L2 (by walk_at "om") (by walk_at "om") (by walk_at "om") (fun d3 H3 d30 d31 c3 L3 => ?_)
    refine newL_rd (fun p5 H5 f5 s5 h5 => ?_)
    refine draw_rd (L3.same s5) (by walk_at "om") (by walk_at "om") (by walk_at "om") (fun d6 H6 d60 d61 c6 L6 => ?_)
    have h56 := c6 _ _ (L3.ne f5) h5
    have e26 : H6 l = some (.lst (ns.map V.int)) := c6 _ _ n1 (s5 _ _ (c3 _ _ n1 e2))
    walk_at "st"
    refine ixAny_rd h56 (by walk_at "om") (by simp only [List.length_cons, List.length_nil]; omega) ?_
    intro v hv
    obtain ⟨m, rfl, hm0, hm⟩ : ∃ m : Int, v = .int m ∧ 0 ≤ m ∧ m ≤ r := by
      simp only [List.mem_cons, List.not_mem_nil, or_false] at hv
      rcases hv with rfl | rfl | rfl <;> exact ⟨_, rfl, by walk_at "om", by walk_at "om"⟩
    clear hv
    refine lst_is e26 ?_
    refine app_rd e26 (by rw [List.length_map, sizeLine_eq]; omega) (fun H7 c7 h7 => ?_)
    walk_at "wh"
    have c26 : Chg a H H6 := ((c2.trans c3).same s5).trans c6
    refine ⟨_, _, ns ++ [m], r - m, rfl, fun b o h1 e => c7 _ _ (ne_of_none e f1) (c26 _ _ h1 e), (L6.chg c7 (Ne.symm n1)).up (by walk_at "om"), by rw [h7, List.map_append]; rfl, by rw [List.length_append, l2]; rfl, by rw [List.sum_append]; simp; omega, by walk_at "om", by walk_at "om", fun x hx => ?_⟩
    rcases List.mem_append.mp hx with hx | hx
    · exact nn x hx
    · have : x = m := by simpa using hx
      omega
  · rintro σ H2 ⟨x0, y0, ns, r, rfl, c2, L2, e2, l2, t2, r0, r1, nn⟩
    refine newL_rd (fun p3 H3 f3 s3 h3' => ?_)
    refine cat_rd (s3 _ _ e2) h3' (by rw [List.length_map, sizeLine_eq, List.length_singleton]; omega) (fun p4 H4 f4 s4 h4' => ?_)
    walk_at "wh"
    have L3 := (L2.same s3).same s4
    have m1 : p4 ≠ a := (L2.same s3).ne f4
    refine q p4 H4 (ns ++ [r]) (Chg.free' (c2.same s3) f4 m1) ((c2.same s3).same s4) (L3.up (by walk_at "om")) m1 (by rw [h4', List.map_append]; rfl) (by rw [List.length_append, l2, List.length_singleton]; omega) (by rw [List.sum_append]; simp; omega) (fun x hx => ?_)
    rcases List.mem_append.mp hx with hx | hx
    · exact nn x hx
    · have : x = r := by simpa using hx
      omega
def wholeM (ms : List (List Int × Int)) : Int := (ms.map fun x => x.2).sum
def Off (b : Addr) (ts : List (Addr × Addr)) : Prop := ∀ t ∈ ts, t.1 ≠ b ∧ t.2 ≠ b
theorem MixAt.chg {H H' : Hp} {m b : Addr} {ts : List (Addr × Addr)} {ms : List (List Int × Int)} (M : MixAt H m ts ms) (c : Chg b H H') (n : m ≠ b) (o : Off b ts) : MixAt H' m ts ms :=
  ⟨c _ _ n M.out, M.len, fun i t x h1 h2 => ⟨c _ _ (o t (List.mem_of_getElem? h1)).1 (M.part i t x h1 h2).1, c _ _ (o t (List.mem_of_getElem? h1)).2 (M.part i t x h1 h2).2⟩⟩
theorem MixAt.off {H : Hp} {m b : Addr} {ts : List (Addr × Addr)} {ms : List (List Int × Int)} (M : MixAt H m ts ms) (f : H b = none) : m ≠ b ∧ Off b ts := by
  refine ⟨ne_of_none M.out f, fun t ht => ?_⟩
  obtain ⟨i, hi⟩ := List.getElem?_of_mem ht
  obtain ⟨t', x, h1, h2, h3, h4⟩ := M.get (i := i) (by have := (List.getElem?_eq_some_iff.mp hi).1; have := M.len; omega)
  rw [hi] at h1
  cases h1
  exact ⟨ne_of_none h3 f, ne_of_none h4 f⟩
theorem MixAt.push {H H' : Hp} {m p q : Addr} {ts : List (Addr × Addr)} {ms : List (List Int × Int)} {x : List Int × Int} (M : MixAt H m ts ms) (c : Chg m H H') (o : Off m ts) (h' : H' m = some (.lst ((ts.map fun t => V.ref t.1) ++ [.ref p]))) (hp : H' p = some (.tup [.ref q, .int x.2])) (hq : H' q = some (.lst (x.1.map V.int))) : MixAt H' m (ts ++ [(p, q)]) (ms ++ [x]) := by
  refine ⟨by rw [h', List.map_append]; rfl, by rw [List.length_append, List.length_append, M.len]; rfl, fun i t y h1 h2 => ?_⟩
  by_cases hi : i < ts.length
  · rw [List.getElem?_append_left hi] at h1
    rw [List.getElem?_append_left (by have := M.len; omega)] at h2
    have := o t (List.mem_of_getElem? h1)
    exact ⟨c _ _ this.1 (M.part i t y h1 h2).1, c _ _ this.2 (M.part i t y h1 h2).2⟩
  · rw [List.getElem?_append_right (by walk_at "om")] at h1
    rw [List.getElem?_append_right (by have := M.len; omega)] at h2
    have e0 : i - ts.length = 0 := by
      have := (List.getElem?_eq_some_iff.mp h1).1
      simp at this; omega
    rw [e0] at h1
    rw [show i - ms.length = 0 by have := M.len; omega] at h2
    cases h1
    cases h2
    exact ⟨hp, hq⟩
theorem Off.push {b p q : Addr} {ts : List (Addr × Addr)} (o : Off b ts) (n1 : p ≠ b) (n2 : q ≠ b) : Off b (ts ++ [(p, q)]) := fun t ht => by
  rcases List.mem_append.mp ht with h | h
  · exact o t h
  · have : t = (p, q) := by simpa using h
    subst this
    exact ⟨n1, n2⟩
theorem wholeM_snoc (ms : List (List Int × Int)) (x : List Int × Int) : wholeM (ms ++ [x]) = wholeM ms + x.2 := by unfold wholeM; rw [List.map_append, List.sum_append]; simp
abbrev OkX (h f : Int) (x : List Int × Int) : Prop := (∀ n ∈ x.1, 0 ≤ n) ∧ (x.1.length : Int) = f ∧ x.1.sum = h ∧ 1 ≤ x.2
theorem all_push {α : Type} {p : α → Prop} {xs : List α} {y : α} (h : ∀ x ∈ xs, p x) (hy : p y) : ∀ x ∈ xs ++ [y], p x := fun x hx => by
  rcases List.mem_append.mp hx with h' | h'
  · exact h x h'
  · have : x = y := by simpa using h'
    subst this
    exact hy
@[irreducible] def sp__law_drawn_mix : Sp := fun vs H Q _ => ∃ (a : Addr) (b : Int) (h f : Nat), vs = [.ref a, .int h, .int f, .int 4] ∧ LeftAt H a b ∧ b ≤ 10000 ∧ h ≤ 40 ∧ (1 ≤ f ∧ f ≤ 8) ∧ ∀ m ts ms H', H m = none → Chg a H H' → LeftAt H' a (b + 2000) → MixAt H' m ts ms → m ≠ a → Off a ts → OkM h f ms → wholeM ms ≤ 10 ^ 30 → ms.length ≤ 10 → Q (.ref m) H'
theorem drawn_mix_rd {H : Hp} {a : Addr} {b : Int} {h f : Nat} {Q : VK} {E : XK} (hL : LeftAt H a b) (hb : b ≤ 10000) (h1 : h ≤ 40) (h2 : 1 ≤ f) (h3 : f ≤ 8) (q : ∀ m ts ms H', H m = none → Chg a H H' → LeftAt H' a (b + 2000) → MixAt H' m ts ms → m ≠ a → Off a ts → OkM h f ms → wholeM ms ≤ 10 ^ 30 → ms.length ≤ 10 → Q (.ref m) H') : sp__law_drawn_mix [.ref a, .int h, .int f, .int 4] H Q E := by
  unfold sp__law_drawn_mix; exact ⟨a, b, h, f, rfl, hL, hb, h1, ⟨h2, h3⟩, q⟩
theorem ok__law_drawn_mix {f : Addr} {fd : FuncData} (F : Fun K "_law_drawn_mix" "_law_drawn_mix" s__law_drawn_mix f fd) (N : Nm mg) (D__law_draw : Def P w K mg base CX0 2 "_law_draw" ["_law_left", "_law_base"] sp__law_draw) (D__law_drawn_plan : Def P w K mg base CX0 3 "_law_drawn_plan" ["_law_left", "_law_hosts", "_law_many"] sp__law_drawn_plan) : FnOk P w K mg base CX0 4 f fd ["_law_left", "_law_hosts", "_law_many", "_law_most"] sp__law_drawn_mix := by
  refine F.ok sc__law_drawn_mix (fun vs H Q E h => by unfold sp__law_drawn_mix at h; obtain ⟨_, _, _, _, rfl, _⟩ := h; rfl) (fun cdv A outer s H vs Q E hr h => ?_)
  unfold sp__law_drawn_mix at h
  obtain ⟨a, b, h, f, rfl, hL, hb, h1, ⟨h2, h3⟩, q⟩ := h
  have hu := hu40 hr
  refine ⟨_, (pss_cons (psS (i := 4) sc__law_drawn_mix.nd (peLst pa_nil))
      (pss_cons (psFor PassesOwn.never rfl (piRng1 N.range_ (pa_cons (pe_op oAdd pe_int (pD D__law_draw hr pass0 (pa_cons (pq 0) (pa_cons (pq 3) pa_nil)))) pa_nil)) (pg_name (i := 5) sc__law_drawn_mix.nd rfl (by first | exact Or.inl rfl | exact Or.inr rfl)) (pss_cons (psS (i := 6) sc__law_drawn_mix.nd (peIxK (K := K) rfl (peLst (pa_cons pe_int (pa_cons (pe_op oAdd pe_int (pD D__law_draw hr pass0 (pa_cons (pq 0) (pa_cons pe_int pa_nil)))) (pa_cons (pe_op oAdd pe_int (pD D__law_draw hr pass0 (pa_cons (pq 0) (pa_cons (pe_op oPow pe_int pe_int) pa_nil)))) pa_nil)))) (pe_op oDiv (pD D__law_draw hr pass0 (pa_cons (pq 0) (pa_cons pe_int pa_nil))) pe_int)))
      (pss_one (ps_expr (peM_append (pq 4) (pa_cons (peTup (pa_cons (pD D__law_drawn_plan hr pass0 (pa_cons (pq 0) (pa_cons (pq 1) (pa_cons (pq 2) pa_nil)))) (pa_cons (pq 6) pa_nil))) pa_nil))))))
      (pss_cons (psCut (psIf (ptC (oEqK (K := K) rfl (by exact hu)) (pD D__law_draw hr pass0 (pa_cons (pq 0) (pa_cons pe_int pa_nil))) pe_int) (pss_one (ps_expr (peM_append (pq 4) (pa_cons (peTup (pa_cons (pT (cListK (K := K) rfl) N.list_ bt_list (pa_cons (peIxK (K := K) rfl (peIxK (K := K) rfl (pq 4) pe_int) pe_int) pa_nil)) (pa_cons (pe_op oAdd pe_int (pD D__law_draw hr pass0 (pa_cons (pq 0) (pa_cons pe_int pa_nil)))) pa_nil))) pa_nil)))) pss_nil))
      (pss_one (ps_ret (pq 4)))))), ?_⟩
  refine newL_rd (fun l H1 f1 s1 h1' => ?_)
  have n1 : l ≠ a := hL.ne f1
  refine draw_rd (hL.same s1) (by walk_at "om") (by walk_at "om") (by walk_at "om") (fun d H2 d0 d1 c2 L2 => ?_)
  refine range_rd (by decide) (by decide) (by walk_at "om") (by walk_at "om") ?_
  obtain ⟨n, en⟩ : ∃ n : Nat, (1 + d - 0).toNat = n := ⟨_, rfl⟩
  rw [en]
  have hn1 : 1 ≤ n ∧ n ≤ 6 := by walk_at "om"
  have c12 : Chg a H H2 := s1.toChg.trans c2
  refine loop_range (fun i σ H3 => ∃ (x y : Option V) (ts : List (Addr × Addr)) (ms : List (List Int × Int)), σ = [some (.ref a), some (.int h), some (.int f), some (.int 4), some (.ref l), x, y] ∧ Chg a H H3 ∧ LeftAt H3 a (b + 4 + 200 * i) ∧ MixAt H3 l ts ms ∧ Off a ts ∧ Off l ts ∧ ms.length = i ∧ (∀ x ∈ ms, OkX h f x) ∧ wholeM ms ≤ i * (10 ^ 28 + 1)) ?_ ?_ ?_
  · refine ⟨_, _, [], [], rfl, c12, L2.up (by walk_at "om"), ⟨c2 _ _ n1 h1', rfl, fun i t x e => by simp at e⟩, ?_, ?_, rfl, ?_, ?_⟩
    · intro t ht; cases ht
    · intro t ht; cases ht
    · intro x hx; cases hx
    · show wholeM [] ≤ _
      unfold wholeM
      simp
  · rintro i σ H3 hi ⟨x0, y0, ts, ms, rfl, c3, L3, M3, O1, O2, l3, k3, w3⟩
    have hi : i < 6 := by walk_at "om"
    refine draw_rd L3 (by walk_at "om") (by walk_at "om") (by walk_at "om") (fun d4 H4 d40 d41 c4 L4 => ?_)
    walk_at "st"
    refine draw_rd L4 (by walk_at "om") (by walk_at "om") (by walk_at "om") (fun d5 H5 d50 d51 c5 L5 => ?_)
    refine newL_rd (fun p6 H6 f6 s6 h6 => ?_)
    refine draw_rd (L5.same s6) (by walk_at "om") (by walk_at "om") (by walk_at "om") (fun d7 H7 d70 d71 c7 L7 => ?_)
    have h67 := c7 _ _ (L5.ne f6) h6
    have M7 := (((M3.chg c4 n1 O1).chg c5 n1 O1).same s6).chg c7 n1 O1
    have c37 : Chg a H H7 := (((c3.trans c4).trans c5).same s6).trans c7
    walk_at "st"
    refine ixAny_rd h67 (by walk_at "om") (by simp only [List.length_cons, List.length_nil]; omega) ?_
    intro v hv
    obtain ⟨wt, rfl, wt0, wt1⟩ : ∃ m : Int, v = .int m ∧ 1 ≤ m ∧ m ≤ 10 ^ 28 + 1 := by
      simp only [List.mem_cons, List.not_mem_nil, or_false] at hv
      rcases hv with rfl | rfl | rfl <;> exact ⟨_, rfl, by walk_at "om", by walk_at "om"⟩
    clear hv h67 h6
    refine lst_is M7.out ?_
    refine drawn_plan_rd L7 (by walk_at "om") h1 h2 h3 (fun p8 H8 ns f8 c8 L8 n8 h8 k81 k82 k83 => ?_)
    have M8 := M7.chg c8 n1 O1
    have p8l : p8 ≠ l := Ne.symm (ne_of_none M7.out f8)
    refine newT_rd (fun p9 H9 f9 s9 h9 => ?_)
    have M9 := M8.same s9
    have p9l : p9 ≠ l := Ne.symm (ne_of_none M8.out f9)
    refine app_rd M9.out (by rw [List.length_map, sizeLine_eq, M9.len]; omega) (fun Ha ca ha => ?_)
    walk_at "wh"
    have Ma := M9.push ca O2 ha (x := (ns, wt)) (ca _ _ p9l h9) (ca _ _ p8l (s9 _ _ h8))
    have c39 : Chg a H H9 := (c37.trans c8).same s9
    refine ⟨_, _, _, _, rfl, fun b o z e => ca _ _ (ne_of_none e f1) (c39 _ _ z e), ((L8.same s9).chg ca (Ne.symm n1)).up (by walk_at "om"), Ma, O1.push (L8.ne f9) n8, O2.push p9l p8l, by rw [List.length_append, l3]; rfl, all_push k3 ⟨k83, by rw [k81], k82, wt0⟩, ?_⟩
    rw [wholeM_snoc]
    push_cast
    rw [Int.add_mul]
    simp only [Int.one_mul]
    omega
  · rintro σ H3 ⟨x0, y0, ts, ms, rfl, c3, L3, M3, O1, O2, l3, k3, w3⟩
    have w1 : ∀ x ∈ ms, 1 ≤ x.2 := fun x hx => (k3 x hx).2.2.2
    have wb : wholeM ms ≤ 6 * (10 ^ 28 + 1) := by
      have : (n : Int) ≤ 6 := by walk_at "om"
      have : (n : Int) * (10 ^ 28 + 1) ≤ 6 * (10 ^ 28 + 1) := Int.mul_le_mul_of_nonneg_right this (by decide)
      omega
    refine cut_rd (fun σ H5 => ∃ (x y : Option V) (ts : List (Addr × Addr)) (ms : List (List Int × Int)), σ = [some (.ref a), some (.int h), some (.int f), some (.int 4), some (.ref l), x, y] ∧ Chg a H H5 ∧ LeftAt H5 a (b + 2000) ∧ MixAt H5 l ts ms ∧ Off a ts ∧ OkM h f ms ∧ wholeM ms ≤ 10 ^ 30 ∧ ms.length ≤ 10) ?_ ?_
    · walk_at "wh"
      refine draw_rd L3 (by walk_at "om") (by walk_at "om") (by walk_at "om") (fun d4 H4 d40 d41 c4 L4 => ?_)
      have M4 := M3.chg c4 n1 O1
      refine br_dec (fun z => ?_) (fun z => ?_)
      · obtain ⟨x, ex⟩ : ∃ x, ms[0]? = some x := ⟨ms[0]'(by walk_at "om"), List.getElem?_eq_getElem _⟩
        obtain ⟨t, et, at0, ht, hp⟩ := M4.ix ex
        have kx := k3 x (List.mem_of_getElem? ex)
        refine lst_is M4.out ?_
        refine ixL_rd (v := .ref t.1) M4.out at0 ?_
        refine ixT_rd (v := .ref t.2) ht rfl ?_
        refine listL_rd (SqL.of hp) (fun p5 H5 f5 s5 h5 => ?_)
        refine draw_rd (L4.same s5) (by walk_at "om") (by walk_at "om") (by walk_at "om") (fun d6 H6 d60 d61 c6 L6 => ?_)
        have n5 : p5 ≠ a := L4.ne f5
        have M6 := (M4.same s5).chg c6 n1 O1
        have p5l : p5 ≠ l := Ne.symm (ne_of_none M4.out f5)
        refine newT_rd (fun p7 H7 f7 s7 h7 => ?_)
        have M7 := M6.same s7
        have p7l : p7 ≠ l := Ne.symm (ne_of_none M6.out f7)
        refine app_rd M7.out (by rw [List.length_map, sizeLine_eq, M7.len]; omega) (fun Ha ca ha => ?_)
        walk_at "wh"
        have Ma := M7.push ca O2 ha (x := (x.1, 1 + d6)) (ca _ _ p7l h7) (ca _ _ p5l (s7 _ _ (c6 _ _ n5 h5)))
        have c37 : Chg a H H7 := (((c3.trans c4).same s5).trans c6).same s7
        refine ⟨_, _, _, _, rfl, fun b o z e => ca _ _ (ne_of_none e f1) (c37 _ _ z e), ((L6.same s7).chg ca (Ne.symm n1)).up (by walk_at "om"), Ma, O1.push (L6.ne f7) n5, ⟨by rw [List.length_append]; simp, by rw [List.length_append, l3, List.length_singleton]; omega, by walk_at "om", all_push k3 ⟨kx.1, kx.2.1, kx.2.2.1, by walk_at "om"⟩⟩, ?_⟩
        rw [wholeM_snoc, List.length_append, l3, List.length_singleton]
        refine ⟨?_, by walk_at "om"⟩
        show wholeM ms + (1 + d6) ≤ 10 ^ 30
        omega
      · walk_at "wh"
        exact ⟨_, _, _, _, rfl, c3.trans c4, L4.up (by walk_at "om"), M4, O1, ⟨by walk_at "om", by walk_at "om", by walk_at "om", k3⟩, by walk_at "om", by walk_at "om"⟩
    · rintro σ H5 ⟨x5, y5, ts5, ms5, rfl, c5, L5, M5, O5, k5, w5, e5⟩
      walk_at "wh"
      exact q l ts5 ms5 H5 f1 c5 L5 M5 n1 O5 k5 w5 e5
-- @@split
theorem rowV_of67 {z : List Int} {n : Nat} (h : z.length = n) : z.map V.int = rowV n fun y => z.getD y 0 := by
  subst h
  apply List.ext_getElem?
  intro i
  by_cases hi : i < z.length
  · rw [rowV_get hi, List.getElem?_map, List.getElem?_eq_getElem hi, List.getD_eq_getElem?_getD, List.getElem?_eq_getElem hi]
    rfl
  · rw [List.getElem?_eq_none (by simp; omega), List.getElem?_eq_none (by rw [rowV_len]; omega)]
/-! ### papers drawn -/
theorem LeftAt.is {H : Hp} {a : Addr} {b : Int} (h : LeftAt H a b) : ∃ o, H a = some o := by
  obtain ⟨x, y, z, e, _⟩ := h
  exact ⟨_, e⟩
@[irreducible] def sp__law_drawn_paper : Sp := fun vs H Q _ => ∃ (a : Addr) (b : Int), vs = [.ref a] ∧ LeftAt H a b ∧ b ≤ 100 ∧ ∀ p st tb rs xss ps n m g H', Chg a H H' → LeftAt H' a (b + 5000) → PapAt (rm a H') p st tb rs xss ps n m g → OkP xss n m g → Q (.ref p) H'
theorem drawn_paper_rd {H : Hp} {a : Addr} {b : Int} {Q : VK} {E : XK} (hL : LeftAt H a b) (hb : b ≤ 100) (q : ∀ p st tb rs xss ps n m g H', Chg a H H' → LeftAt H' a (b + 5000) → PapAt (rm a H') p st tb rs xss ps n m g → OkP xss n m g → Q (.ref p) H') : sp__law_drawn_paper [.ref a] H Q E := by
  unfold sp__law_drawn_paper; exact ⟨a, b, rfl, hL, hb, q⟩
theorem ok__law_drawn_paper {f : Addr} {fd : FuncData} (F : Fun K "_law_drawn_paper" "_law_drawn_paper" s__law_drawn_paper f fd) (N : Nm mg) (D__law_draw : Def P w K mg base CX0 2 "_law_draw" ["_law_left", "_law_base"] sp__law_draw) (D__law_drawn_mix : Def P w K mg base CX0 4 "_law_drawn_mix" ["_law_left", "_law_hosts", "_law_many", "_law_most"] sp__law_drawn_mix) (D__law_flowing : Def P w K mg base CX0 1 "_law_flowing" ["_law_mix"] sp__law_flowing) : FnOk P w K mg base CX0 5 f fd ["_law_left"] sp__law_drawn_paper := by
  refine F.ok sc__law_drawn_paper (fun vs H Q E h => by unfold sp__law_drawn_paper at h; obtain ⟨_, _, rfl, _⟩ := h; rfl) (fun cdv A outer s H vs Q E hr h => ?_)
  unfold sp__law_drawn_paper at h
  obtain ⟨a, b, rfl, hL, hb, q⟩ := h
  have hu := hu40 hr
  refine ⟨_, (pss_cons (psS (i := 1) sc__law_drawn_paper.nd (pD D__law_draw hr pass0 (pa_cons (pq 0) (pa_cons pe_int pa_nil))))
      (pss_cons (psS (i := 2) sc__law_drawn_paper.nd (pe_op oAdd pe_int (pD D__law_draw hr pass0 (pa_cons (pq 0) (pa_cons pe_int pa_nil)))))
      (pss_cons (psS (i := 3) sc__law_drawn_paper.nd (pD D__law_flowing hr pass0 (pa_cons (pD D__law_drawn_mix hr pass0 (pa_cons (pq 0) (pa_cons (pq 1) (pa_cons (pq 2) (pa_cons pe_int pa_nil))))) pa_nil)))
      (pss_cons (psS (i := 4) sc__law_drawn_paper.nd (pe_op oAdd pe_int (pD D__law_draw hr pass0 (pa_cons (pq 0) (pa_cons pe_int pa_nil)))))
      (pss_cons (psS (i := 5) sc__law_drawn_paper.nd (peIxK (K := K) rfl (peLst (pa_cons pe_int (pa_cons (pe_op oPow pe_int pe_int) pa_nil))) (pD D__law_draw hr pass0 (pa_cons (pq 0) (pa_cons pe_int pa_nil)))))
      (pss_cons (psC (i := 6) (N := ["_law_k", "_law_wide", "_law_left", "_law_far"]) (ks := [none, some 4, some 0, some 5]) sc__law_drawn_paper.nd (piRng1 N.range_ (pa_cons (pq 2) pa_nil)) (fun cl C s3 H3 fp => (pg_name (i := 0) nb_4 rfl (by first | exact Or.inl rfl | exact Or.inr rfl))) (fun cl C s3 H3 fp => pts_nil) (fun cl C s3 H3 fp => (peComp (N := ["_law_count", "_law_left", "_law_far"]) (ks := [none, some 2, some 3]) (piRng1 N.range_ (pa_cons (pq 1) pa_nil)) (fun cl C s3 H3 fp => (pg_name (i := 0) nb_5 rfl (by first | exact Or.inl rfl | exact Or.inr rfl))) (fun cl C s3 H3 fp => pts_nil) (fun cl C s3 H3 fp => (pe_op oSub (pD D__law_draw hr pass0 (pa_cons (pq 1) (pa_cons (pe_op oMul pe_int (pq 2)) pa_nil))) (pq 2))) (.skip (.take rfl rfl (by first | exact Or.inl rfl | exact Or.inr rfl) (.take rfl rfl (by first | exact Or.inl rfl | exact Or.inr rfl) .nil))))) (.skip (.take rfl rfl (by first | exact Or.inl rfl | exact Or.inr rfl) (.take rfl rfl (by first | exact Or.inl rfl | exact Or.inr rfl) (.take rfl rfl (by first | exact Or.inl rfl | exact Or.inr rfl) .nil)))))
      (pss_one (ps_ret (peTup (pa_cons (pq 3) (pa_cons (pq 6) pa_nil))))))))))), ?_⟩
  refine draw_rd hL (by walk_at "om") (by walk_at "om") (by walk_at "om") (fun h H1 h0 h1 c1 L1 => ?_)
  refine draw_rd L1 (by walk_at "om") (by walk_at "om") (by walk_at "om") (fun d H2 d0 d1 c2 L2 => ?_)
  obtain ⟨hN, ehN⟩ : ∃ n : Nat, h = (n : Int) := ⟨h.toNat, by walk_at "om"⟩
  subst ehN
  obtain ⟨f, ef⟩ : ∃ n : Nat, 1 + d = (n : Int) := ⟨(1 + d).toNat, by walk_at "om"⟩
  walk_at "wh"
  rw [ef]
  refine drawn_mix_rd L2 (by walk_at "om") (by walk_at "om") (by walk_at "om") (by walk_at "om") (fun mx ts ms H3 f3 c3 L3 M3 n3 o3 O3 w3 l3 => ?_)
  refine flowing_rd M3 O3 (by walk_at "om") (fun st rs xss H4 f4 s4 S4 xl xb => ?_)
  obtain ⟨oa, ea⟩ := L3.is
  have T4 : StR (rm a H4) st rs xss := (S4.same (nw_rm ea)).str
  have L4 := L3.same s4
  refine draw_rd L4 (by walk_at "om") (by walk_at "om") (by walk_at "om") (fun e H5 e0 e1 c5 L5 => ?_)
  walk_at "st"
  refine newL_rd (fun p6 H6 f6 s6 h6 => ?_)
  refine draw_rd (L5.same s6) (by walk_at "om") (by walk_at "om") (by walk_at "om") (fun w H7 w0 w1 c7 L7 => ?_)
  have h67 := c7 _ _ (L5.ne f6) h6
  refine ixAny_rd h67 (by walk_at "om") (by simp only [List.length_cons, List.length_nil]; omega) ?_
  intro v hv
  obtain ⟨far, rfl, far0, far1⟩ : ∃ m : Int, v = .int m ∧ 10 ≤ m ∧ m ≤ 10 ^ 29 := by
    simp only [List.mem_cons, List.not_mem_nil, or_false] at hv
    rcases hv with rfl | rfl <;> exact ⟨_, rfl, by decide, by decide⟩
  clear hv h67 h6
  have T7 : StR (rm a H7) st rs xss := ((T4.same (Chg.rm c5)).same (Same.rm s6)).same (Chg.rm c7)
  have c07 : Chg a H H7 := ((((((c1.trans c2).trans c3).same s4).trans c5).same s6).trans c7)
  obtain ⟨wd, ewd⟩ : ∃ n : Nat, 1 + e = (n : Int) := ⟨(1 + e).toNat, by walk_at "om"⟩
  rw [ewd]
  refine range_rd (by decide) (by decide) (by walk_at "om") (by walk_at "om") ?_
  rw [show ((f : Int) - 0).toNat = f by walk_at "om"]
  refine comp_rangeV (by rw [sizeLine_eq]; omega) (fun acc H8 f8 s8 h8 => ?_)
  have na : acc ≠ a := L7.ne f8
  refine ⟨fun j ys σ H9 => ∃ (t : Option V) (qs : List Addr) (zs : List (List Int)), σ = [t, some (.int wd), some (.ref a), some (.int far)] ∧ ys = qs.map V.ref ∧ qs.length = j ∧ zs.length = j ∧ (∀ (k : Nat) q z, qs[k]? = some q → zs[k]? = some z → q ≠ a ∧ q ≠ acc ∧ H9 q = some (.lst (z.map V.int)) ∧ z.length = wd ∧ ∀ v ∈ z, -(10 ^ 30) ≤ v ∧ v ≤ 10 ^ 30) ∧ LeftAt H9 a (b + 2500 + 100 * j) ∧ Chg2 a acc H7 H9, ?_, ?_, ?_⟩
  · exact ⟨none, [], [], rfl, rfl, rfl, rfl, fun k q z e => by simp at e, (L7.same s8).up (by walk_at "om"), s8.to2⟩
  · rintro j m' ys σ H9 hj hm hl h9 ⟨t, qs, zs, rfl, rfl, ql, zl, pr, L9, c9⟩
    refine br_T ?_
    refine range_rd (by decide) (by decide) (by walk_at "om") (by walk_at "om") ?_
    rw [show ((wd : Int) - 0).toNat = wd by walk_at "om"]
    refine comp_rangeV (by rw [sizeLine_eq]; omega) (fun ac2 Ha fa sa ha => ?_)
    have na2 : ac2 ≠ a := L9.ne fa
    have naa : acc ≠ ac2 := ne_of_none h9 fa
    refine ⟨fun i ys σ Hb => ∃ (t : Option V) (z : List Int), σ = [t, some (.ref a), some (.int far)] ∧ ys = z.map V.int ∧ z.length = i ∧ (∀ v ∈ z, -(10 ^ 30) ≤ v ∧ v ≤ 10 ^ 30) ∧ LeftAt Hb a (b + 2500 + 100 * j + 4 * i) ∧ Chg2 a ac2 H9 Hb, ?_, ?_, ?_⟩
    · exact ⟨none, [], rfl, rfl, rfl, fun v hv => (by cases hv), (L9.same sa).up (by walk_at "om"), sa.to2⟩
    · rintro i m2 ys σ Hb hi hm2 hl2 hb2 ⟨t2, z, rfl, rfl, lz, bz, Lb, cb⟩
      refine br_T ?_
      walk_at "st"
      refine draw_rd Lb (by walk_at "om") (by walk_at "om") (by walk_at "om") (fun dd Hc dd0 dd1 cc Lc => ?_)
      refine cputV_rd hi hm2 hl2 (cc _ _ na2 hb2) (fun Hd cd hd => ?_)
      exact ⟨_, z ++ [dd - far], rfl, by rw [List.map_append]; rfl, by rw [List.length_append, lz]; rfl, fun v hv => by
        rcases List.mem_append.mp hv with hv | hv
        · exact bz v hv
        · rw [List.mem_singleton.mp hv]; omega, (Lc.chg cd (Ne.symm na2)).up (by walk_at "om"), (cb.trans cc.toL).trans cd.toR⟩
    · rintro ys σ Hb hb2 ⟨t2, z, rfl, rfl, lz, bz, Lb, cb⟩
      refine cputV_rd hj hm hl (cb _ _ na naa h9) (fun Hd cd hd => ?_)
      have facc2 : H7 ac2 = none ∨ ac2 = acc ∨ ac2 = a := by
        cases e7 : H7 ac2 with
        | none => exact .inl rfl
        | some o => exact absurd (c9 _ _ na2 (Ne.symm naa) e7) (by rw [fa]; exact fun w => nomatch w)
      refine ⟨_, qs ++ [ac2], zs ++ [z], rfl, by rw [List.map_append]; rfl, by rw [List.length_append, ql]; rfl, by rw [List.length_append, zl]; rfl, fun k q' z' g1 g2 => ?_, (Lb.chg cd (Ne.symm na)).up (by walk_at "om"), fun b' o n1 n2 e7 => cd _ _ n2 (cb _ _ n1 (ne_of_none (c9 _ _ n1 n2 e7) fa) (c9 _ _ n1 n2 e7))⟩
      by_cases hk : k < qs.length
      · rw [List.getElem?_append_left hk] at g1
        rw [List.getElem?_append_left (by walk_at "om")] at g2
        obtain ⟨y1, y2, y3, y4, y5⟩ := pr k q' z' g1 g2
        exact ⟨y1, y2, cd _ _ y2 (cb _ _ y1 (ne_of_none y3 fa) y3), y4, y5⟩
      · rw [List.getElem?_append_right (by walk_at "om")] at g1 g2
        have k0 : k - qs.length = 0 := by
          have := (List.getElem?_eq_some_iff.mp g1).1
          simp at this; omega
        rw [k0] at g1
        rw [show k - zs.length = 0 by walk_at "om"] at g2
        cases g1
        cases g2
        exact ⟨na2, Ne.symm naa, cd _ _ (Ne.symm naa) hb2, lz, bz⟩
  · rintro ys σ H9 h9 ⟨t, qs, zs, rfl, rfl, ql, zl, pr, L9, c9⟩
    have T9 : StR (rm a H9) st rs xss := T7.same (fun b' o z => by
      obtain ⟨z1, z2⟩ := rm_of z
      exact rm_at z1 (c9 _ _ z1 (ne_of_none z2 f8) z2))
    refine newT_rd (fun pp Ha fa sa ha => ?_)
    walk_at "wh"
    have facc : H acc = none := Chg.free' c07 f8 na
    refine q pp st acc rs xss qs f wd (fun x y => (zs.getD x []).getD y 0) Ha (fun b' o z e => sa _ _ (c9 _ _ z (ne_of_none (c07 _ _ z e) f8) (c07 _ _ z e))) ((L9.same sa).up (by walk_at "om")) ⟨rm_at (L9.ne fa) ha, T9.same (Same.rm sa), ⟨rm_at na (sa _ _ h9), ql, fun i p' e => ?_⟩⟩ ⟨by walk_at "om", xb, by walk_at "om", by walk_at "om", fun x y hx hy => ?_⟩
    · obtain ⟨z, ez⟩ : ∃ z, zs[i]? = some z := ⟨_, List.getElem?_eq_getElem (by have := (List.getElem?_eq_some_iff.mp e).1; omega)⟩
      obtain ⟨y1, y2, y3, y4, y5⟩ := pr i p' z e ez
      have eg : zs.getD i [] = z := by rw [List.getD_eq_getElem?_getD, ez]; rfl
      rw [eg, ← rowV_of67 y4]
      exact rm_at y1 (sa _ _ y3)
    · obtain ⟨q0, eq0⟩ : ∃ q0, qs[x]? = some q0 := ⟨_, List.getElem?_eq_getElem (by walk_at "om")⟩
      obtain ⟨z, ez⟩ : ∃ z, zs[x]? = some z := ⟨_, List.getElem?_eq_getElem (by walk_at "om")⟩
      obtain ⟨y1, y2, y3, y4, y5⟩ := pr x q0 z eq0 ez
      have eg : zs.getD x [] = z := by rw [List.getD_eq_getElem?_getD, ez]; rfl
      obtain ⟨v, ev⟩ : ∃ v, z[y]? = some v := ⟨_, List.getElem?_eq_getElem (by walk_at "om")⟩
      have ev2 : z.getD y 0 = v := by rw [List.getD_eq_getElem?_getD, ev]; rfl
      show -(10 ^ 30) ≤ (zs.getD x []).getD y 0 ∧ (zs.getD x []).getD y 0 ≤ 10 ^ 30
      rw [eg, ev2]
      exact y5 v (List.mem_of_getElem? ev)
-- @@split
@[irreducible] def sp__law_caught_by : Sp := fun vs H Q _ => ∃ (p st tb : Addr) (rs : List (Addr × List Addr)) (xss : List (List Fl)) (ps : List Addr) (n m : Nat) (g : Nat → Nat → Int) (k : Int), vs = [.ref p, .int k] ∧ PapAt H p st tb rs xss ps n m g ∧ OkP xss n m g ∧ k < 1 ∧ ∀ H', Same H H' → Q (.str "number") H'
theorem caught_rd {H : Hp} {p st tb : Addr} {rs : List (Addr × List Addr)} {xss : List (List Fl)} {ps : List Addr} {n m : Nat} {g : Nat → Nat → Int} {k : Int} {Q : VK} {E : XK} (A : PapAt H p st tb rs xss ps n m g) (O : OkP xss n m g) (hk : k < 1) (q : ∀ H', Same H H' → Q (.str "number") H') : sp__law_caught_by [.ref p, .int k] H Q E := by
  unfold sp__law_caught_by; exact ⟨p, st, tb, rs, xss, ps, n, m, g, k, rfl, A, O, hk, q⟩
theorem ok__law_caught_by {f : Addr} {fd : FuncData} (F : Fun K "_law_caught_by" "_law_caught_by" s__law_caught_by f fd) (N : Nm mg) (D__law_kind_of : Def P w K mg base CX0 1 "_law_kind_of" ["_law_caught"] (sp__law_kind_of a_NoNumber)) (D_paper_scaled : Def P w K mg base (CXR P w) 4 "paper_scaled" ["paper", "many"] (sp_paper_scaled a_NoNumber)) (Z : Cz K mg base a_HostError a_NoBattle a_NoPlan a_NoMix a_NoStream a_NoSide a_NoAlike a_NoNumber a_TooGreat a_NoEven a_NoText a_NoRow a_NoName a_NoPlace) : FnOk P w K mg base CX0 5 f fd ["_law_paper", "_law_many"] sp__law_caught_by := by
  refine F.ok sc__law_caught_by (fun vs H Q E h => by unfold sp__law_caught_by at h; obtain ⟨_, _, _, _, _, _, _, _, _, _, rfl, _⟩ := h; rfl) (fun cdv A outer s H vs Q E hr h => ?_)
  unfold sp__law_caught_by at h
  obtain ⟨p, st, tb, rs, xss, ps, n, m, g, k, rfl, PA, O, hk, q⟩ := h
  have hu := hu40 hr
  refine ⟨_, (pss_cons (psS (i := 2) sc__law_caught_by.nd pe_non)
      (pss_cons (psTry (K := K) (ke := 3) (ky := 2) rfl sc__law_caught_by.nd Z.g_HostError (psxOne (psxCall D_paper_scaled hr (pa_cons (pq 0) (pa_cons (pq 1) pa_nil)))))
      (pss_one (ps_ret (pD D__law_kind_of hr pass0 (pa_cons (pq 2) pa_nil)))))), ?_⟩
  refine paper_scaledE_rd PA O hk (catch_rd Z.m_NoNumber (fun ea H1 f1 s1 h1 => ?_))
  refine kind_rd h1 (fun H2 s2 => ?_)
  walk_at "wh"
  exact q _ (s1.trans s2)
-- @@split
def spLaw (K : PySem.W.Frag) : Sp := fun vs H Q _ => ∃ (a : Addr) (ns : List Int), vs = [.ref a] ∧ SqL K H a (ns.map V.int) ∧ ns.length ≤ 63 ∧ ∀ H', Q (.bl true) H'
theorem script_len30 {ns : List Int} (h : ns.length ≤ 63) : [V.int 3].length + (cutV (ns.map V.int) none (some 30)).length ≤ sizeLine := by
  rw [cut_takeV (by decide), List.length_take, List.length_map, sizeLine_eq, List.length_singleton]; omega
theorem script_int30 {ns : List Int} {i : Nat} {x : V} (h : ([V.int 3] ++ cutV (ns.map V.int) none (some 30))[i]? = some x) : ∃ z, x = .int z := by
  rw [cut_takeV (by decide)] at h
  rcases List.mem_append.mp (List.mem_of_getElem? h) with h | h
  · exact ⟨3, by simpa using h⟩
  · obtain ⟨z, _, rfl⟩ := List.mem_map.mp (List.mem_of_mem_take h)
    exact ⟨z, rfl⟩
theorem FreshL.rm {H1 H : Hp} {acc a : Addr} {ps : List Addr} {n : Nat} {f : Nat → HO} (F : FreshL H1 H acc ps n f) (e : ∃ o, H1 a = some o) : FreshL (rm a H1) (G.rm a H) acc ps n f := by
  obtain ⟨o, ea⟩ := e
  have nn : ∀ b, H1 b = none → b ≠ a ∧ G.rm a H1 b = none := fun b hb => ⟨(fun z => by rw [z, ea] at hb; cases hb), (by unfold G.rm; split <;> first | rfl | exact hb)⟩
  exact ⟨(nn _ F.facc).2, Same.rm F.same, rm_at (nn _ F.facc).1 F.out, F.len, F.nd, F.nin, fun i p q => ⟨(nn _ (F.row i p q).1).2, rm_at (nn _ (F.row i p q).1).1 (F.row i p q).2⟩⟩
theorem GridAt.rev {H H' : Hp} {a a' : Addr} {ps : List Addr} {n m : Nat} {g : Nat → Nat → Int} (B : GridAt H a ps n m g) (s : ∀ p ∈ ps, ∀ o, H p = some o → H' p = some o) (hl : H' a' = some (.lst (ps.map V.ref).reverse)) : GridAt H' a' ps.reverse n m (fun i => g (n - 1 - i)) := by
  refine ⟨by rw [hl, List.map_reverse], by rw [List.length_reverse, B.len], fun i p h1 => ?_⟩
  have hi : i < ps.length := by have := (List.getElem?_eq_some_iff.mp h1).1; rwa [List.length_reverse] at this
  rw [List.getElem?_reverse hi, B.len] at h1
  exact s _ (List.mem_of_getElem? h1) _ (B.row _ p h1)
/-- the paper that is changed in between -/
def gP : Nat → Nat → Int := fun x _ => if x = 0 then 5 else 6
theorem litP {H : Hp} {t1 l1 t2 l2 st r1 r2 tb p : Addr} (h1 : H t1 = some (.tup [.int 1, .int 0, .int 2])) (h2 : H l1 = some (.lst [.ref t1])) (h3 : H t2 = some (.tup [.int 1, .int 1, .int 2])) (h4 : H l2 = some (.lst [.ref t2])) (h5 : H st = some (.lst [.ref l1, .ref l2])) (h6 : H r1 = some (.lst [.int 5])) (h7 : H r2 = some (.lst [.int 6])) (h8 : H tb = some (.lst [.ref r1, .ref r2])) (h9 : H p = some (.tup [.ref st, .ref tb])) : PapAt H p st tb [(l1, [t1]), (l2, [t2])] [[(1, 0, 2)], [(1, 1, 2)]] [r1, r2] 2 1 gP := by
  refine ⟨h9, ⟨h5, .cons ⟨h2, .cons h1 .nil⟩ (.cons ⟨h4, .cons h3 .nil⟩ .nil)⟩, ⟨h8, rfl, fun j q e => ?_⟩⟩
  match j with
  | 0 => cases e; exact h6
  | 1 => cases e; exact h7
  | j + 2 => simp at e
theorem litOk : OkP [[(1, 0, 2)], [(1, 1, 2)]] 2 1 gP := by
  refine ⟨by decide, by decide, by decide, by decide, fun x y hx hy => ?_⟩
  show -(10 ^ 30) ≤ (if x = 0 then (5 : Int) else 6) ∧ (if x = 0 then (5 : Int) else 6) ≤ 10 ^ 30
  split <;> decide
theorem OkP.map {xss : List (List Fl)} {n m : Nat} {g : Nat → Nat → Int} (O : OkP xss n m g) : OkP xss n m (fun i => g (n - 1 - i)) := ⟨O.1, O.2.1, O.2.2.1, O.2.2.2.1, fun x y hx hy => O.2.2.2.2 _ _ (by walk_at "om") hy⟩
set_option maxHeartbeats 0 in
theorem ok_law {f : Addr} {fd : FuncData} (F : Fun K "law" "law" s_law f fd) (N : Nm mg) (D__law_caught_by : Def P w K mg base CX0 5 "_law_caught_by" ["_law_paper", "_law_many"] sp__law_caught_by) (D__law_changed : Def P w K mg base CX0 5 "_law_changed" ["_law_way", "_law_paper", "_law_many"] sp__law_changed) (D__law_draw : Def P w K mg base CX0 2 "_law_draw" ["_law_left", "_law_base"] sp__law_draw) (D__law_drawn_paper : Def P w K mg base CX0 5 "_law_drawn_paper" ["_law_left"] sp__law_drawn_paper) (D__law_marked : Def P w K mg base CX0 7 "_law_marked" ["_law_thing"] sp__law_marked) (D__law_once : Def P w K mg base CX0 7 "_law_once" ["_law_thing"] sp__law_once) (D__law_opened : Def P w K mg base CX0 1 "_law_opened" ["_law_cell"] sp__law_opened) (D_paper_exchanged : Def P w K mg base CX0 4 "paper_exchanged" ["paper"] sp_paper_exchanged) (D_paper_scaled : Def P w K mg base (CXR P w) 4 "paper_scaled" ["paper", "many"] (sp_paper_scaled a_NoNumber)) : FnOk P w K mg base CX0 8 f fd ["_law_script"] (spLaw K) := by
  refine F.ok sc_law (fun vs H Q E h => by obtain ⟨n, k, rfl, _⟩ := h; rfl) (fun cdv A outer s H vs Q E hr h => ?_)
  obtain ⟨a, ns0, rfl, hS, hlen, k⟩ := h
  have hu := hu40 hr
  refine ⟨_, (pss_cons (psFor PassesOwn.never rfl (piSeqK (K := K) rfl (pe_op oAdd (peLst (pa_cons pe_int pa_nil)) (pe_slice (slK (K := K) rfl) (pq 0) po_none (poSome pe_int)))) (pg_name (i := 1) sc_law.nd rfl (by first | exact Or.inl rfl | exact Or.inr rfl)) (pss_cons (psS (i := 2) sc_law.nd (pD D__law_opened hr pass0 (pa_cons (pq 1) pa_nil)))
      (pss_cons (psS (i := 3) sc_law.nd (pD D__law_drawn_paper hr pass0 (pa_cons (pq 2) pa_nil)))
      (pss_cons (psS (i := 4) sc_law.nd (peTup (pa_cons (peComp (N := ["_law_row"]) (ks := [none]) (piSeqK (K := K) rfl (peIxK (K := K) rfl (pq 3) pe_int)) (fun cl C s3 H3 fp => (pg_name (i := 0) nb_6 rfl (by first | exact Or.inl rfl | exact Or.inr rfl))) (fun cl C s3 H3 fp => pts_nil) (fun cl C s3 H3 fp => (pT (cListK (K := K) rfl) N.list_ bt_list (pa_cons (pq 0) pa_nil))) (.skip .nil)) (pa_cons (peComp (N := ["_law_row"]) (ks := [none]) (piSeqK (K := K) rfl (peIxK (K := K) rfl (pq 3) pe_int)) (fun cl C s3 H3 fp => (pg_name (i := 0) nb_6 rfl (by first | exact Or.inl rfl | exact Or.inr rfl))) (fun cl C s3 H3 fp => pts_nil) (fun cl C s3 H3 fp => (pT (cListK (K := K) rfl) N.list_ bt_list (pa_cons (pq 0) pa_nil))) (.skip .nil)) pa_nil))))
      (pss_cons (psS (i := 5) sc_law.nd (pD D__law_draw hr pass0 (pa_cons (pq 2) (pa_cons (pe_op oPow pe_int pe_int) pa_nil))))
      (pss_cons (psS (i := 6) sc_law.nd (peIxK (K := K) rfl (peLst (pa_cons pe_int (pa_cons (pe_op oAdd pe_int (pe_op oMod (pq 5) pe_int)) (pa_cons (pe_op oAdd pe_int (pq 5)) pa_nil)))) (pe_op oDiv (pD D__law_draw hr pass0 (pa_cons (pq 2) (pa_cons pe_int pa_nil))) pe_int)))
      (pss_cons (psFor PassesOwn.never rfl (piSeqK (K := K) rfl (peLst (pa_cons (peTup (pa_cons pe_int (pa_cons (pe_un uNeg pe_int) pa_nil))) (pa_cons (peTup (pa_cons pe_int (pa_cons (pq 6) pa_nil))) (pa_cons (peTup (pa_cons pe_int (pa_cons (pe_un uNeg pe_int) pa_nil))) (pa_cons (peTup (pa_cons pe_int (pa_cons (pq 6) pa_nil))) pa_nil)))))) (pgAnyK (K := K) (n := 2) rfl rfl (pgsCons (pg_name (i := 7) sc_law.nd rfl (by first | exact Or.inl rfl | exact Or.inr rfl)) (pgsCons (pg_name (i := 8) sc_law.nd rfl (by first | exact Or.inl rfl | exact Or.inr rfl)) pgsNil))) (pss_cons (psS (i := 9) sc_law.nd (pD D__law_changed hr pass0 (pa_cons (pq 7) (pa_cons (pq 4) (pa_cons (pq 6) pa_nil)))))
      (pss_cons (psC (i := 10) (N := ["_law_row", "_law_by"]) (ks := [none, some 8]) sc_law.nd (piSeqK (K := K) rfl (peIxK (K := K) rfl (pq 3) pe_int)) (fun cl C s3 H3 fp => (pg_name (i := 0) nb_7 rfl (by first | exact Or.inl rfl | exact Or.inr rfl))) (fun cl C s3 H3 fp => pts_nil) (fun cl C s3 H3 fp => (peComp (N := ["_law_number", "_law_by"]) (ks := [none, some 1]) (piSeqK (K := K) rfl (pq 0)) (fun cl C s3 H3 fp => (pg_name (i := 0) nb_8 rfl (by first | exact Or.inl rfl | exact Or.inr rfl))) (fun cl C s3 H3 fp => pts_nil) (fun cl C s3 H3 fp => (pe_op oMul (pq 0) (pq 1))) (.skip (.take rfl rfl (by first | exact Or.inl rfl | exact Or.inr rfl) .nil)))) (.skip (.take rfl rfl (by first | exact Or.inl rfl | exact Or.inr rfl) .nil)))
      (pss_cons (psIf (ptW (pwOr (ptC (oNeK (K := K) rfl (by exact hu)) (pq 9) (peTup (pa_cons (peIxK (K := K) rfl (pq 3) pe_int) (pa_cons (pq 10) pa_nil)))) (pw_or1 (ptC (oNeK (K := K) rfl (by exact hu)) (pq 4) (pq 3))))) (pss_one (ps_ret pe_bl)) pss_nil)
      (pss_cons (ps_expr (pD D__law_changed hr pass0 (pa_cons (pq 7) (pa_cons (peTup (pa_cons (peLst (pa_cons (peLst (pa_cons (peTup (pa_cons pe_int (pa_cons pe_int (pa_cons pe_int pa_nil)))) pa_nil)) (pa_cons (peLst (pa_cons (peTup (pa_cons pe_int (pa_cons pe_int (pa_cons pe_int pa_nil)))) pa_nil)) pa_nil))) (pa_cons (peLst (pa_cons (peLst (pa_cons pe_int pa_nil)) (pa_cons (peLst (pa_cons pe_int pa_nil)) pa_nil))) pa_nil))) (pa_cons pe_int pa_nil)))))
      (pss_cons (psIf (ptC (oNeK (K := K) rfl (by exact hu)) (pq 9) (peTup (pa_cons (peIxK (K := K) rfl (pq 3) pe_int) (pa_cons (pq 10) pa_nil)))) (pss_one (ps_ret pe_bl)) pss_nil)
      (pss_cons (ps_expr (pD D__law_marked hr pass0 (pa_cons (pq 9) pa_nil)))
      (pss_one (psIf (pt_not (ptV (pD D__law_once hr pass0 (pa_cons (pq 9) pa_nil)))) (pss_one (ps_ret pe_bl)) pss_nil)))))))))
      (pss_cons (psIf (ptW (pwOr (ptC (oNeK (K := K) rfl (by exact hu)) (pD D__law_caught_by hr pass0 (pa_cons (pq 4) (pa_cons (peIxK (K := K) rfl (peLst (pa_cons pe_int (pa_cons (pe_un uNeg pe_int) (pa_cons (pe_op oSub (pe_un uNeg pe_int) (pq 5)) pa_nil)))) (pD D__law_draw hr pass0 (pa_cons (pq 2) (pa_cons pe_int pa_nil)))) pa_nil))) pe_str) (pw_or1 (ptC (oNeK (K := K) rfl (by exact hu)) (pq 4) (pq 3))))) (pss_one (ps_ret pe_bl)) pss_nil)
      (pss_cons (ps_expr (peM_reverse (K := K) rfl (peIxK (K := K) rfl (pq 4) pe_int)))
      (pss_cons (psC (i := 10) (N := ["_law_row"]) (ks := [none]) sc_law.nd (piSeqK (K := K) rfl (peRv (K := K) rfl (peIxK (K := K) rfl (pq 3) pe_int))) (fun cl C s3 H3 fp => (pg_name (i := 0) nb_6 rfl (by first | exact Or.inl rfl | exact Or.inr rfl))) (fun cl C s3 H3 fp => pts_nil) (fun cl C s3 H3 fp => (peComp (N := ["_law_number"]) (ks := [none]) (piSeqK (K := K) rfl (pq 0)) (fun cl C s3 H3 fp => (pg_name (i := 0) nb_9 rfl (by first | exact Or.inl rfl | exact Or.inr rfl))) (fun cl C s3 H3 fp => pts_nil) (fun cl C s3 H3 fp => (pe_op oSub pe_int (pq 0))) (.skip .nil))) (.skip .nil))
      (pss_one (psIf (ptW (pwOr (ptC (oNeK (K := K) rfl (by exact hu)) (pD D_paper_exchanged hr pass0 (pa_cons (pq 4) pa_nil)) (peTup (pa_cons (peIxK (K := K) rfl (pq 3) pe_int) (pa_cons (pq 10) pa_nil)))) (pw_or1 (ptC (oNeK (K := K) rfl (by exact hu)) (pD D_paper_scaled hr passR0 (pa_cons (pq 4) (pa_cons pe_int pa_nil))) (peTup (pa_cons (peIxK (K := K) rfl (pq 3) pe_int) (pa_cons (peRv (K := K) rfl (peIxK (K := K) rfl (pq 3) pe_int)) pa_nil))))))) (pss_one (ps_ret pe_bl)) pss_nil))))))))))))
      (pss_one (ps_ret pe_bl))), ?_⟩
  refine newL_rd (fun p1 H1 hf1 hs1 ha1 => ?_)
  refine sl_rd (hs1.seq hS) (fun p2 H2 hf2 hs2 ha2 => ?_)
  refine cat_rd (hs2 _ _ ha1) ha2 (script_len30 hlen) (fun p3 H3 hf3 hs3 ha3 => ?_)
  refine iterL_rd ha3 ?_
  refine loop_list (xs := [V.int 3] ++ cutV (ns0.map V.int) none (some 30)) (fun i σ H4 => ∃ x1 x2 x3 x4 x5 x6 x7 x8 x9 x10 : Option V, σ = [some (.ref a), x1, x2, x3, x4, x5, x6, x7, x8, x9, x10] ∧ Same H3 H4) ?_ ?_ ?_ ?_
  · exact ⟨_, _, _, _, _, _, _, _, _, _, rfl, Same.refl _⟩
  · rintro i σ H4 _ ⟨_, _, _, _, _, _, _, _, _, _, _, h⟩
    exact SqL.of (h _ _ ha3)
  · rintro i x σ H4 hi ⟨x1, x2, x3, x4, x5, x6, x7, x8, x9, x10, rfl, s4⟩
    obtain ⟨z, rfl⟩ := script_int30 hi
    refine opened_rd (fun pl H5 f5 s5 L5 => ?_)
    have fpl : H3 pl = none := s4.free f5
    have s35 : Same H3 H5 := s4.trans s5
    refine drawn_paper_rd L5 (by walk_at "om") (fun pa st tb rs xss ps n m g H6 c6 L6 P6 O => ?_)
    have s36 := s35.chg fpl c6
    have Q6 := P6.same (rm_same pl H6)
    have sl := Q6.stm.row.length
    obtain ⟨o1, o2, o3, o4, o5⟩ := id O
    refine ixT_rd (v := .ref st) Q6.out rfl ?_
    refine iterL_rd Q6.stm.out ?_
    refine comp_F (n := (rs.map fun r => V.ref r.1).length) (Wk.list (SqL.of Q6.stm.out)) (by rw [List.length_map, sizeLine_eq]; omega) (fun i => .lst (((rs.map (·.2)).getD i []).map V.ref)) (fun j σ => ∃ t : Option V, σ = [t]) ⟨none, rfl⟩ ?_ ?_
    · rintro j v σ H1 R S hj s1 hx ⟨t, rfl⟩ k'
      rw [List.getElem?_map] at hx
      obtain ⟨r, er, rfl⟩ := Option.map_eq_some_iff.mp hx
      obtain ⟨y, ey⟩ : ∃ y, xss[j]? = some y := ⟨xss[j]'(by have := (List.getElem?_eq_some_iff.mp er).1; omega), List.getElem?_eq_getElem _⟩
      have R0 := paired_at Q6.stm.row j r y er ey
      have eg : (rs.map (·.2)).getD j [] = r.2 := by rw [List.getD_eq_getElem?_getD, List.getElem?_map, er]; rfl
      rw [eg] at k'
      refine br_T ?_
      refine listL_rd (SqL.of (s1 _ _ R0.out)) (fun q2 H2 f2 s2 h2 => ?_)
      walk_at "wh"
      exact k' _ _ _ f2 s2 h2 ⟨_, rfl⟩
    intro h1 qs H7 F7
    rw [List.length_map] at F7
    obtain ⟨C7, E7⟩ := rows_copied P6.stm (FreshL.rm F7 L6.is)
    have Q7 := Q6.same F7.same
    refine ixT_rd (v := .ref tb) Q7.out rfl ?_
    refine iterL_rd Q7.tab.out ?_
    refine comp_F (n := (ps.map V.ref).length) (Wk.list (SqL.of Q7.tab.out)) (by rw [List.length_map, sizeLine_eq, Q7.tab.len]; omega) (fun i => .lst (rowV m (g i))) (fun j σ => ∃ t : Option V, σ = [t]) ⟨none, rfl⟩ ?_ ?_
    · rintro j v σ H1 R S hj s1 hx ⟨t, rfl⟩ k'
      rw [List.getElem?_map] at hx
      obtain ⟨r, er, rfl⟩ := Option.map_eq_some_iff.mp hx
      refine br_T ?_
      refine listL_rd (SqL.of (s1 _ _ (Q7.tab.row j r er))) (fun q2 H2 f2 s2 h2 => ?_)
      walk_at "wh"
      exact k' _ _ _ f2 s2 h2 ⟨_, rfl⟩
    intro h2 qt H8 F8
    rw [List.length_map, Q7.tab.len] at F8
    refine newT_rd (fun hd H9 f9 s9 h9 => ?_)
    have s69 := (F7.same.trans F8.same).trans s9
    have L9 := L6.same s69
    have nhd : hd ≠ pl := (L6.same (F7.same.trans F8.same)).ne f9
    have F8r := FreshL.rm F8 (L6.same F7.same).is
    have A9 : PapAt (rm pl H9) hd h1 h2 (qs.zip (rs.map (·.2))) xss qt n m g := ⟨rm_at nhd h9, (C7.same (Same.rm F8.same)).same (Same.rm s9), ⟨(Same.rm s9) _ _ F8r.out, F8.len, fun i p e => (Same.rm s9) _ _ (F8r.row i p e).2⟩⟩
    have P9 : PapAt (rm pl H9) pa st tb rs xss ps n m g := P6.same (Same.rm s69)
    have s39 := s36.trans s69
    have f3h2 : H3 h2 = none := (s36.trans F7.same).free F8.facc
    have h2new : ∀ {b : Addr} {o : HO}, H7 b = some o → b ≠ h2 := fun e => ne_of_none e F8.facc
    walk_at "st"
    refine draw_rd L9 (by walk_at "om") (by walk_at "om") (by walk_at "om") (fun far H10 far0 far1 c10 L10 => ?_)
    walk_at "st"
    rename_i r9 r90 r91
    refine newL_rd (fun p11 H11 f11 s11 h11 => ?_)
    refine draw_rd (L10.same s11) (by walk_at "om") (by walk_at "om") (by walk_at "om") (fun d5 H12 d50 d51 c12 L12 => ?_)
    have h112 := c12 _ _ (L10.ne f11) h11
    walk_at "st"
    refine ixAny_rd h112 (by walk_at "om") (by simp only [List.length_cons, List.length_nil]; omega) ?_
    intro v hv
    obtain ⟨mn, rfl, mn1, mn2⟩ : ∃ mn : Int, v = .int mn ∧ 1 ≤ mn ∧ mn ≤ 10 ^ 30 := by
      simp only [List.mem_cons, List.not_mem_nil, or_false] at hv
      rcases hv with rfl | rfl | rfl
      · exact ⟨_, rfl, by decide, by decide⟩
      · exact ⟨_, rfl, by walk_at "om", by walk_at "om"⟩
      · exact ⟨_, rfl, by walk_at "om", by walk_at "om"⟩
    clear hv h112 h11
    have c912 : Chg pl H9 H12 := (c10.same s11).trans c12
    have A12 := A9.same (Chg.rm c912)
    have P12 := P9.same (Chg.rm c912)
    have s312 := s39.chg fpl c912
    obtain ⟨opl, epl⟩ := L12.is
    refine newT_rd (fun t1 H13 f13 s13 h13 => ?_)
    refine newT_rd (fun t2 H14 f14 s14 h14 => ?_)
    refine newT_rd (fun t3 H15 f15 s15 h15 => ?_)
    refine newT_rd (fun t4 H16 f16 s16 h16 => ?_)
    refine newL_rd (fun tl H17 f17 s17 h17 => ?_)
    have ways : ∀ (j : Nat) v, [V.ref t1, .ref t2, .ref t3, .ref t4][j]? = some v → ∃ (t : Addr) (w b : Int), v = .ref t ∧ H17 t = some (.tup [.int w, .int b]) ∧ b = if w = 0 then -1 else mn := fun j v e => by
      match j with
      | 0 => cases e; exact ⟨t1, 0, -1, rfl, s17 _ _ (s16 _ _ (s15 _ _ (s14 _ _ h13))), rfl⟩
      | 1 => cases e; exact ⟨t2, 1, mn, rfl, s17 _ _ (s16 _ _ (s15 _ _ h14)), rfl⟩
      | 2 => cases e; exact ⟨t3, 0, -1, rfl, s17 _ _ (s16 _ _ h15), rfl⟩
      | 3 => cases e; exact ⟨t4, 1, mn, rfl, s17 _ _ h16, rfl⟩
      | j + 4 => simp at e
    have s1217 : Same H12 H17 := (((s13.trans s14).trans s15).trans s16).trans s17
    have A17 := A12.same (Same.rm s1217)
    have P17 := P12.same (Same.rm s1217)
    have s317 := s312.trans s1217
    have L17 := L12.same s1217
    have B17 := A17.same (rm_same pl H17)
    have R17 := P17.same (rm_same pl H17)
    clear h13 h14 h15 h16 A12 P12 A9 P9
    refine iterL_rd h17 ?_
    refine loop_list (xs := [V.ref t1, .ref t2, .ref t3, .ref t4]) (fun i σ Hx => ∃ y7 y8 y9 y10 : Option V, σ = [some (.ref a), some (.int z), some (.ref pl), some (.ref pa), some (.ref hd), some (.int far), some (.int mn), y7, y8, y9, y10] ∧ Same H17 Hx) ?_ ?_ ?_ ?_
    · exact ⟨_, _, _, _, rfl, Same.refl _⟩
    · rintro j σ Hx _ ⟨_, _, _, _, _, sx⟩
      exact SqL.of (sx _ _ h17)
    · rintro j v σ Hx hj ⟨y7, y8, y9, y10, rfl, sx⟩
      obtain ⟨t, w, b, rfl, et, eb⟩ := ways j v hj
      have b1 : -(10 ^ 30) ≤ b := by rw [eb]; split <;> omega
      have b2 : b ≤ 10 ^ 30 := by rw [eb]; split <;> omega
      refine unpT_rd (sx _ _ et) ?_
      refine changed_rd (B17.same sx) O mn1 mn2 (fun tp ts tt rt pt Hy sy Ny => ?_)
      rw [← eb] at Ny
      have sxy := sx.trans sy
      have Ry := R17.same sxy
      refine ixT_rd (v := .ref tb) Ry.out rfl ?_
      refine iterL_rd Ry.tab.out ?_
      refine comp_F (n := (ps.map V.ref).length) (Wk.list (SqL.of Ry.tab.out)) (by rw [List.length_map, sizeLine_eq, Ry.tab.len]; omega) (fun i => .lst (rowV m fun y => g i y * b)) (fun j σ => ∃ t : Option V, σ = [t, some (.int b)]) ⟨none, rfl⟩ ?_ ?_
      · rintro j v σ H1 R S hj s1 hx ⟨t, rfl⟩ k'
        rw [List.getElem?_map] at hx
        obtain ⟨r, er, rfl⟩ := Option.map_eq_some_iff.mp hx
        rw [List.length_map, Ry.tab.len] at hj
        have hrow := s1 _ _ (Ry.tab.row j r er)
        refine br_T ?_
        refine iterL_rd hrow ?_
        refine comp_I (Wk.list (SqL.of hrow)) (by rw [rowV_len, sizeLine_eq]; omega) (fun i => .int (g j i * b)) (fun _ => true) (fun j σ => ∃ t : Option V, σ = [t, some (.int b)]) ⟨none, rfl⟩ ?_ ?_
        · rintro y v σ H2 R2 S2 hy s2 hx ⟨t, rfl⟩ k2 _
          rw [rowV_len] at hy
          rw [rowV_get hy] at hx
          cases hx
          refine br_T ?_
          refine mulC_rd (o5 j y hj hy).1 (o5 j y hj hy).2 b1 b2 ?_
          walk_at "wh"
          exact k2 rfl _ _ (Same.refl _) ⟨_, rfl⟩
        intro ac2 H2 f2 s2 h2'
        rw [filter_T, rowV_len] at h2'
        walk_at "wh"
        exact k' _ _ _ f2 s2 h2' ⟨_, rfl⟩
      intro du qd Hz Fz
      rw [List.length_map, Ry.tab.len] at Fz
      have Uz : GridAt Hz du qd n m (fun x y => g x y * b) := ⟨Fz.out, Fz.len, fun i p e => (Fz.row i p e).2⟩
      have Rz := Ry.same Fz.same
      refine ixT_rd (v := .ref st) Rz.out rfl ?_
      refine newT_rd (fun u1 Ha fa sa ha => ?_)
      have sya := Fz.same.trans sa
      refine eqO_rd ((Ny.pap.same sya).eq ⟨ha, (Rz.stm.same sa), Uz.same sa⟩) ?_
      refine br_F ?_
      have sxa := sxy.trans sya
      refine eqO_rd ((B17.same sxa).eq (R17.same sxa)) ?_
      refine br_F ?_
      refine newT_rd (fun v1 Hb1 fb1 sb1 hb1 => ?_)
      refine newL_rd (fun v2 Hb2 fb2 sb2 hb2 => ?_)
      refine newT_rd (fun v3 Hb3 fb3 sb3 hb3 => ?_)
      refine newL_rd (fun v4 Hb4 fb4 sb4 hb4 => ?_)
      refine newL_rd (fun v5 Hb5 fb5 sb5 hb5 => ?_)
      refine newL_rd (fun v6 Hb6 fb6 sb6 hb6 => ?_)
      refine newL_rd (fun v7 Hb7 fb7 sb7 hb7 => ?_)
      refine newL_rd (fun v8 Hb8 fb8 sb8 hb8 => ?_)
      refine newT_rd (fun v9 Hb9 fb9 sb9 hb9 => ?_)
      have LP := litP ((((((((sb2.trans sb3).trans sb4).trans sb5).trans sb6).trans sb7).trans sb8).trans sb9) _ _ hb1) (((((((sb3.trans sb4).trans sb5).trans sb6).trans sb7).trans sb8).trans sb9) _ _ hb2) ((((((sb4.trans sb5).trans sb6).trans sb7).trans sb8).trans sb9) _ _ hb3) (((((sb5.trans sb6).trans sb7).trans sb8).trans sb9) _ _ hb4) ((((sb6.trans sb7).trans sb8).trans sb9) _ _ hb5) (((sb7.trans sb8).trans sb9) _ _ hb6) ((sb8.trans sb9) _ _ hb7) (sb9 _ _ hb8) hb9
      have sab : Same Ha Hb9 := (((((((sb1.trans sb2).trans sb3).trans sb4).trans sb5).trans sb6).trans sb7).trans sb8).trans sb9
      refine changed_rd LP litOk (by decide) (by decide) (fun _ _ _ _ _ Hc sc' _ => ?_)
      have sac := sab.trans sc'
      have syc := sya.trans sac
      have Rc := R17.same (sxy.trans syc)
      refine ixT_rd (v := .ref st) Rc.out rfl ?_
      refine newT_rd (fun u2 Hd fd' sd hd' => ?_)
      have syd := syc.trans sd
      refine eqO_rd ((Ny.pap.same syd).eq ⟨hd', Rc.stm.same sd, (Uz.same (sa.trans sac)).same sd⟩) ?_
      refine br_F ?_
      refine marked_rd ((Ny.pap.same syd).marks o1 o2 o3 o4) Ny.nd (fun He me => ?_)
      refine once_rd ((Ny.pap.same syd).marks o1 o2 o3 o4) me (fun Hf sf => ?_)
      refine br_not (br_T ?_)
      walk_at "wh"
      exact ⟨_, _, _, _, rfl, sx.trans ((Same.chgS (sy.trans syd) Ny.fr me.1).trans sf)⟩
    rintro σ Hx ⟨y7, y8, y9, y10, rfl, sx⟩
    have Lx := L17.same sx
    have Ax := A17.same (Same.rm sx)
    have Px := P17.same (Same.rm sx)
    have s3x := s317.trans sx
    have c9x : Chg pl H9 Hx := (c912.same s1217).same sx
    clear B17 R17 L17 L12 L10 L9 L6 L5
    refine newL_rd (fun p18 H18 f18 s18 h18 => ?_)
    refine draw_rd (Lx.same s18) (by walk_at "om") (by walk_at "om") (by walk_at "om") (fun d19 H19 d190 d191 c19 L19 => ?_)
    have h1819 := c19 _ _ (Lx.ne f18) h18
    refine ixAny_rd h1819 (by walk_at "om") (by simp only [List.length_cons, List.length_nil]; omega) ?_
    intro v hv
    obtain ⟨wr, rfl, wr1⟩ : ∃ wr : Int, v = .int wr ∧ wr < 1 := by
      simp only [List.mem_cons, List.not_mem_nil, or_false] at hv
      rcases hv with rfl | rfl | rfl
      · exact ⟨_, rfl, by decide⟩
      · exact ⟨_, rfl, by decide⟩
      · exact ⟨_, rfl, by walk_at "om"⟩
    clear hv h1819 h18
    have cx19 : Chg pl Hx H19 := s18.toChg.trans c19
    have A19 := (Ax.same (Chg.rm cx19)).same (rm_same pl H19)
    have P19 := (Px.same (Chg.rm cx19)).same (rm_same pl H19)
    refine caught_rd A19 O wr1 (fun H20 s20 => ?_)
    walk_at "wh"
    first | refine br_F ?_ | refine br_dF (by decide) ?_
    have A20 := A19.same s20
    have P20 := P19.same s20
    refine eqO_rd (A20.eq P20) ?_
    refine br_F ?_
    refine ixT_rd (v := .ref h2) A20.out rfl ?_
    refine lst_is A20.tab.out ?_
    refine rev_rd A20.tab.out (fun H21 c21 h21 => ?_)
    have mv : ∀ b o, b ≠ pl → b ≠ h2 → H9 b = some o → H21 b = some o := fun b o n1 n2 e => c21 _ _ n2 (s20 _ _ (cx19 _ _ n1 (c9x _ _ n1 e)))
    have mv7 : ∀ b o, rm pl H7 b = some o → H21 b = some o := fun b o e => by
      obtain ⟨e1, e2⟩ := rm_of e
      exact mv b o e1 (h2new e2) (s9 _ _ (F8.same _ _ e2))
    have hdh2 : hd ≠ h2 := Ne.symm (ne_of_none F8.out f9)
    have P21 : PapAt H21 pa st tb rs xss ps n m g := (P6.same (Same.rm F7.same)).same mv7
    have A21 : PapAt H21 hd h1 h2 (qs.zip (rs.map (·.2))) xss qt.reverse n m (fun i => g (n - 1 - i)) := ⟨c21 _ _ hdh2 A20.out, C7.same mv7, GridAt.rev A20.tab (fun p hp o e => c21 _ _ (fun w => F8.nin (w ▸ hp)) e) h21⟩
    have s321 : Same H3 H21 := ((s3x.chg fpl cx19).trans s20).chg f3h2 c21
    refine ixT_rd (v := .ref tb) P21.out rfl ?_
    refine rv_rd (SqL.of P21.tab.out) (fun lr H22 f22 s22 h22 => ?_)
    have G22 : GridAt H22 lr ps.reverse n m (fun i => g (n - 1 - i)) := GridAt.rev P21.tab (fun p _ o e => s22 _ _ e) h22
    refine iterL_rd G22.out ?_
    refine comp_F (n := (ps.reverse.map V.ref).length) (Wk.list (SqL.of G22.out)) (by rw [List.length_map, sizeLine_eq, G22.len]; omega) (fun i => .lst (rowV m fun y => g (n - 1 - i) y * -1)) (fun j σ => ∃ t : Option V, σ = [t]) ⟨none, rfl⟩ ?_ ?_
    · rintro j v σ H1 R S hj s1 hx ⟨t, rfl⟩ k'
      rw [List.getElem?_map] at hx
      obtain ⟨r, er, rfl⟩ := Option.map_eq_some_iff.mp hx
      have hrow := s1 _ _ (G22.row j r er)
      refine br_T ?_
      refine iterL_rd hrow ?_
      refine comp_I (Wk.list (SqL.of hrow)) (by rw [rowV_len, sizeLine_eq]; omega) (fun i => .int (g (n - 1 - j) i * -1)) (fun _ => true) (fun j σ => ∃ t : Option V, σ = [t]) ⟨none, rfl⟩ ?_ ?_
      · rintro y v σ H2 R2 S2 hy s2 hx ⟨t, rfl⟩ k2 _
        rw [rowV_len] at hy
        rw [rowV_get hy] at hx
        cases hx
        refine br_T ?_
        walk_at "wh"
        rw [show 0 - g (n - 1 - j) y = g (n - 1 - j) y * -1 by walk_at "om"]
        exact k2 rfl _ _ (Same.refl _) ⟨_, rfl⟩
      intro ac2 H2 f2 s2 h2'
      rw [filter_T, rowV_len] at h2'
      walk_at "wh"
      exact k' _ _ _ f2 s2 h2' ⟨_, rfl⟩
    intro du qd H23 F23
    rw [List.length_map, G22.len] at F23
    have U23 : GridAt H23 du qd n m (fun x y => g (n - 1 - x) y * -1) := ⟨F23.out, F23.len, fun i p e => (F23.row i p e).2⟩
    have s2123 := s22.trans F23.same
    refine paper_exchanged_rd (A21.same s2123) O.map (fun p' st' tb' rs' ps' H24 s24 N24 => ?_)
    have P24 := P21.same (s2123.trans s24)
    refine ixT_rd (v := .ref st) P24.out rfl ?_
    refine newT_rd (fun u3 H25 f25 s25 h25 => ?_)
    refine eqO_rd ((N24.pap.same s25).eq ⟨h25, P24.stm.same s25, (U23.same s24).same s25⟩) ?_
    refine br_F ?_
    have s2125 := (s2123.trans s24).trans s25
    refine paper_scaled_rd (A21.same s2125) O.map (by decide) (by decide) (fun p'' st'' tb'' rs'' ps'' H26 s26 N26 => ?_)
    have P26 := P21.same (s2125.trans s26)
    refine ixT_rd (v := .ref st) P26.out rfl ?_
    refine ixT_rd (v := .ref tb) P26.out rfl ?_
    refine rv_rd (SqL.of P26.tab.out) (fun l2 H27 f27 s27 h27 => ?_)
    have G27 : GridAt H27 l2 ps.reverse n m (fun x y => g (n - 1 - x) y * 1) := (GridAt.rev P26.tab (fun p _ o e => s27 _ _ e) h27).ext fun i t _ _ => (Int.mul_one _).symm
    refine newT_rd (fun u4 H28 f28 s28 h28 => ?_)
    refine eqO_rd ((N26.pap.same (s27.trans s28)).eq ⟨h28, P26.stm.same (s27.trans s28), G27.same s28⟩) ?_
    refine br_F ?_
    walk_at "wh"
    exact ⟨_, _, _, _, _, _, _, _, _, _, rfl, (s321.trans s2125).trans ((s26.trans s27).trans s28)⟩
  · rintro σ H4 ⟨_, _, _, _, _, _, _, _, _, _, rfl, _⟩
    exact k H4
-- @@split
end
theorem all_mk {l : PySem.W.OpenLaw} {w : World} {K : PySem.W.Frag} {h : Heap} {mg : Str → Option Value} {fa : Addr} (X : K.In h) (G : h.Ns mainGlobals mg) (hfa : mg "law" = some (.ref fa))
    {f_is_whole : Addr} {od_is_whole an_is_whole : Option Addr} {sl_is_whole : Array (Option Value)} {oc_is_whole kV_is_whole dc_is_whole pm_is_whole cd_is_whole ct_is_whole : Value} {f_is_from : Addr} {od_is_from an_is_from : Option Addr} {sl_is_from : Array (Option Value)} {oc_is_from kV_is_from dc_is_from pm_is_from cd_is_from ct_is_from : Value} {f_look_many : Addr} {od_look_many an_look_many : Option Addr} {sl_look_many : Array (Option Value)} {oc_look_many kV_look_many dc_look_many pm_look_many cd_look_many ct_look_many : Value} {f_row_times : Addr} {od_row_times an_row_times : Option Addr} {sl_row_times : Array (Option Value)} {oc_row_times kV_row_times dc_row_times pm_row_times cd_row_times ct_row_times : Value} {f_table_times : Addr} {od_table_times an_table_times : Option Addr} {sl_table_times : Array (Option Value)} {oc_table_times kV_table_times dc_table_times pm_table_times cd_table_times ct_table_times : Value} {f_paper_times : Addr} {od_paper_times an_paper_times : Option Addr} {sl_paper_times : Array (Option Value)} {oc_paper_times kV_paper_times dc_paper_times pm_paper_times cd_paper_times ct_paper_times : Value} {f_paper_exchanged : Addr} {od_paper_exchanged an_paper_exchanged : Option Addr} {sl_paper_exchanged : Array (Option Value)} {oc_paper_exchanged kV_paper_exchanged dc_paper_exchanged pm_paper_exchanged cd_paper_exchanged ct_paper_exchanged : Value} {f_paper_scaled : Addr} {od_paper_scaled an_paper_scaled : Option Addr} {sl_paper_scaled : Array (Option Value)} {oc_paper_scaled kV_paper_scaled dc_paper_scaled pm_paper_scaled cd_paper_scaled ct_paper_scaled : Value} {f__law_stirred : Addr} {od__law_stirred an__law_stirred : Option Addr} {sl__law_stirred : Array (Option Value)} {oc__law_stirred kV__law_stirred dc__law_stirred pm__law_stirred cd__law_stirred ct__law_stirred : Value} {f__law_opened : Addr} {od__law_opened an__law_opened : Option Addr} {sl__law_opened : Array (Option Value)} {oc__law_opened kV__law_opened dc__law_opened pm__law_opened cd__law_opened ct__law_opened : Value} {f__law_draw : Addr} {od__law_draw an__law_draw : Option Addr} {sl__law_draw : Array (Option Value)} {oc__law_draw kV__law_draw dc__law_draw pm__law_draw cd__law_draw ct__law_draw : Value} {f__law_drawn_plan : Addr} {od__law_drawn_plan an__law_drawn_plan : Option Addr} {sl__law_drawn_plan : Array (Option Value)} {oc__law_drawn_plan kV__law_drawn_plan dc__law_drawn_plan pm__law_drawn_plan cd__law_drawn_plan ct__law_drawn_plan : Value} {f__law_drawn_mix : Addr} {od__law_drawn_mix an__law_drawn_mix : Option Addr} {sl__law_drawn_mix : Array (Option Value)} {oc__law_drawn_mix kV__law_drawn_mix dc__law_drawn_mix pm__law_drawn_mix cd__law_drawn_mix ct__law_drawn_mix : Value} {f__law_flowing : Addr} {od__law_flowing an__law_flowing : Option Addr} {sl__law_flowing : Array (Option Value)} {oc__law_flowing kV__law_flowing dc__law_flowing pm__law_flowing cd__law_flowing ct__law_flowing : Value} {f__law_kind_of : Addr} {od__law_kind_of an__law_kind_of : Option Addr} {sl__law_kind_of : Array (Option Value)} {oc__law_kind_of kV__law_kind_of dc__law_kind_of pm__law_kind_of cd__law_kind_of ct__law_kind_of : Value} {f__law_drawn_paper : Addr} {od__law_drawn_paper an__law_drawn_paper : Option Addr} {sl__law_drawn_paper : Array (Option Value)} {oc__law_drawn_paper kV__law_drawn_paper dc__law_drawn_paper pm__law_drawn_paper cd__law_drawn_paper ct__law_drawn_paper : Value} {f__law_marked : Addr} {od__law_marked an__law_marked : Option Addr} {sl__law_marked : Array (Option Value)} {oc__law_marked kV__law_marked dc__law_marked pm__law_marked cd__law_marked ct__law_marked : Value} {f__law_once : Addr} {od__law_once an__law_once : Option Addr} {sl__law_once : Array (Option Value)} {oc__law_once kV__law_once dc__law_once pm__law_once cd__law_once ct__law_once : Value} {f__law_changed : Addr} {od__law_changed an__law_changed : Option Addr} {sl__law_changed : Array (Option Value)} {oc__law_changed kV__law_changed dc__law_changed pm__law_changed cd__law_changed ct__law_changed : Value} {f__law_caught_by : Addr} {od__law_caught_by an__law_caught_by : Option Addr} {sl__law_caught_by : Array (Option Value)} {oc__law_caught_by kV__law_caught_by dc__law_caught_by pm__law_caught_by cd__law_caught_by ct__law_caught_by : Value} {f_law : Addr} {od_law an_law : Option Addr} {sl_law : Array (Option Value)} {oc_law kV_law dc_law pm_law cd_law ct_law : Value} {a_HostError : Addr} {cd_HostError : ClassData} {a_NoBattle : Addr} {cd_NoBattle : ClassData} {a_NoPlan : Addr} {cd_NoPlan : ClassData} {a_NoMix : Addr} {cd_NoMix : ClassData} {a_NoStream : Addr} {cd_NoStream : ClassData} {a_NoSide : Addr} {cd_NoSide : ClassData} {a_NoAlike : Addr} {cd_NoAlike : ClassData} {a_NoNumber : Addr} {cd_NoNumber : ClassData} {a_TooGreat : Addr} {cd_TooGreat : ClassData} {a_NoEven : Addr} {cd_NoEven : ClassData} {a_NoText : Addr} {cd_NoText : ClassData} {a_NoRow : Addr} {cd_NoRow : ClassData} {a_NoName : Addr} {cd_NoName : ClassData} {a_NoPlace : Addr} {cd_NoPlace : ClassData}
    (a_is_whole : PySem.W.nsIn K mainGlobals "is_whole" = some (some (.ref f_is_whole)))
    (l_is_whole : K.lookup f_is_whole = some ⟨oc_is_whole, od_is_whole, .func (PySem.W.fnOf "is_whole" "is_whole" (defArgs s_is_whole) (defBody s_is_whole) (defScope s_is_whole) .none kV_is_whole dc_is_whole pm_is_whole an_is_whole cd_is_whole ct_is_whole), sl_is_whole⟩)
    (c_is_whole : PySem.W.codeIn K cd_is_whole "is_whole" = true)
    (k_is_whole : PySem.W.keepIn K (.ref f_is_whole) = true)
    (a_is_from : PySem.W.nsIn K mainGlobals "is_from" = some (some (.ref f_is_from)))
    (l_is_from : K.lookup f_is_from = some ⟨oc_is_from, od_is_from, .func (PySem.W.fnOf "is_from" "is_from" (defArgs s_is_from) (defBody s_is_from) (defScope s_is_from) .none kV_is_from dc_is_from pm_is_from an_is_from cd_is_from ct_is_from), sl_is_from⟩)
    (c_is_from : PySem.W.codeIn K cd_is_from "is_from" = true)
    (k_is_from : PySem.W.keepIn K (.ref f_is_from) = true)
    (a_look_many : PySem.W.nsIn K mainGlobals "look_many" = some (some (.ref f_look_many)))
    (l_look_many : K.lookup f_look_many = some ⟨oc_look_many, od_look_many, .func (PySem.W.fnOf "look_many" "look_many" (defArgs s_look_many) (defBody s_look_many) (defScope s_look_many) .none kV_look_many dc_look_many pm_look_many an_look_many cd_look_many ct_look_many), sl_look_many⟩)
    (c_look_many : PySem.W.codeIn K cd_look_many "look_many" = true)
    (k_look_many : PySem.W.keepIn K (.ref f_look_many) = true)
    (a_row_times : PySem.W.nsIn K mainGlobals "row_times" = some (some (.ref f_row_times)))
    (l_row_times : K.lookup f_row_times = some ⟨oc_row_times, od_row_times, .func (PySem.W.fnOf "row_times" "row_times" (defArgs s_row_times) (defBody s_row_times) (defScope s_row_times) .none kV_row_times dc_row_times pm_row_times an_row_times cd_row_times ct_row_times), sl_row_times⟩)
    (c_row_times : PySem.W.codeIn K cd_row_times "row_times" = true)
    (k_row_times : PySem.W.keepIn K (.ref f_row_times) = true)
    (a_table_times : PySem.W.nsIn K mainGlobals "table_times" = some (some (.ref f_table_times)))
    (l_table_times : K.lookup f_table_times = some ⟨oc_table_times, od_table_times, .func (PySem.W.fnOf "table_times" "table_times" (defArgs s_table_times) (defBody s_table_times) (defScope s_table_times) .none kV_table_times dc_table_times pm_table_times an_table_times cd_table_times ct_table_times), sl_table_times⟩)
    (c_table_times : PySem.W.codeIn K cd_table_times "table_times" = true)
    (k_table_times : PySem.W.keepIn K (.ref f_table_times) = true)
    (a_paper_times : PySem.W.nsIn K mainGlobals "paper_times" = some (some (.ref f_paper_times)))
    (l_paper_times : K.lookup f_paper_times = some ⟨oc_paper_times, od_paper_times, .func (PySem.W.fnOf "paper_times" "paper_times" (defArgs s_paper_times) (defBody s_paper_times) (defScope s_paper_times) .none kV_paper_times dc_paper_times pm_paper_times an_paper_times cd_paper_times ct_paper_times), sl_paper_times⟩)
    (c_paper_times : PySem.W.codeIn K cd_paper_times "paper_times" = true)
    (k_paper_times : PySem.W.keepIn K (.ref f_paper_times) = true)
    (a_paper_exchanged : PySem.W.nsIn K mainGlobals "paper_exchanged" = some (some (.ref f_paper_exchanged)))
    (l_paper_exchanged : K.lookup f_paper_exchanged = some ⟨oc_paper_exchanged, od_paper_exchanged, .func (PySem.W.fnOf "paper_exchanged" "paper_exchanged" (defArgs s_paper_exchanged) (defBody s_paper_exchanged) (defScope s_paper_exchanged) .none kV_paper_exchanged dc_paper_exchanged pm_paper_exchanged an_paper_exchanged cd_paper_exchanged ct_paper_exchanged), sl_paper_exchanged⟩)
    (c_paper_exchanged : PySem.W.codeIn K cd_paper_exchanged "paper_exchanged" = true)
    (k_paper_exchanged : PySem.W.keepIn K (.ref f_paper_exchanged) = true)
    (a_paper_scaled : PySem.W.nsIn K mainGlobals "paper_scaled" = some (some (.ref f_paper_scaled)))
    (l_paper_scaled : K.lookup f_paper_scaled = some ⟨oc_paper_scaled, od_paper_scaled, .func (PySem.W.fnOf "paper_scaled" "paper_scaled" (defArgs s_paper_scaled) (defBody s_paper_scaled) (defScope s_paper_scaled) .none kV_paper_scaled dc_paper_scaled pm_paper_scaled an_paper_scaled cd_paper_scaled ct_paper_scaled), sl_paper_scaled⟩)
    (c_paper_scaled : PySem.W.codeIn K cd_paper_scaled "paper_scaled" = true)
    (k_paper_scaled : PySem.W.keepIn K (.ref f_paper_scaled) = true)
    (a__law_stirred : PySem.W.nsIn K mainGlobals "_law_stirred" = some (some (.ref f__law_stirred)))
    (l__law_stirred : K.lookup f__law_stirred = some ⟨oc__law_stirred, od__law_stirred, .func (PySem.W.fnOf "_law_stirred" "_law_stirred" (defArgs s__law_stirred) (defBody s__law_stirred) (defScope s__law_stirred) .none kV__law_stirred dc__law_stirred pm__law_stirred an__law_stirred cd__law_stirred ct__law_stirred), sl__law_stirred⟩)
    (c__law_stirred : PySem.W.codeIn K cd__law_stirred "_law_stirred" = true)
    (k__law_stirred : PySem.W.keepIn K (.ref f__law_stirred) = true)
    (a__law_opened : PySem.W.nsIn K mainGlobals "_law_opened" = some (some (.ref f__law_opened)))
    (l__law_opened : K.lookup f__law_opened = some ⟨oc__law_opened, od__law_opened, .func (PySem.W.fnOf "_law_opened" "_law_opened" (defArgs s__law_opened) (defBody s__law_opened) (defScope s__law_opened) .none kV__law_opened dc__law_opened pm__law_opened an__law_opened cd__law_opened ct__law_opened), sl__law_opened⟩)
    (c__law_opened : PySem.W.codeIn K cd__law_opened "_law_opened" = true)
    (k__law_opened : PySem.W.keepIn K (.ref f__law_opened) = true)
    (a__law_draw : PySem.W.nsIn K mainGlobals "_law_draw" = some (some (.ref f__law_draw)))
    (l__law_draw : K.lookup f__law_draw = some ⟨oc__law_draw, od__law_draw, .func (PySem.W.fnOf "_law_draw" "_law_draw" (defArgs s__law_draw) (defBody s__law_draw) (defScope s__law_draw) .none kV__law_draw dc__law_draw pm__law_draw an__law_draw cd__law_draw ct__law_draw), sl__law_draw⟩)
    (c__law_draw : PySem.W.codeIn K cd__law_draw "_law_draw" = true)
    (k__law_draw : PySem.W.keepIn K (.ref f__law_draw) = true)
    (a__law_drawn_plan : PySem.W.nsIn K mainGlobals "_law_drawn_plan" = some (some (.ref f__law_drawn_plan)))
    (l__law_drawn_plan : K.lookup f__law_drawn_plan = some ⟨oc__law_drawn_plan, od__law_drawn_plan, .func (PySem.W.fnOf "_law_drawn_plan" "_law_drawn_plan" (defArgs s__law_drawn_plan) (defBody s__law_drawn_plan) (defScope s__law_drawn_plan) .none kV__law_drawn_plan dc__law_drawn_plan pm__law_drawn_plan an__law_drawn_plan cd__law_drawn_plan ct__law_drawn_plan), sl__law_drawn_plan⟩)
    (c__law_drawn_plan : PySem.W.codeIn K cd__law_drawn_plan "_law_drawn_plan" = true)
    (k__law_drawn_plan : PySem.W.keepIn K (.ref f__law_drawn_plan) = true)
    (a__law_drawn_mix : PySem.W.nsIn K mainGlobals "_law_drawn_mix" = some (some (.ref f__law_drawn_mix)))
    (l__law_drawn_mix : K.lookup f__law_drawn_mix = some ⟨oc__law_drawn_mix, od__law_drawn_mix, .func (PySem.W.fnOf "_law_drawn_mix" "_law_drawn_mix" (defArgs s__law_drawn_mix) (defBody s__law_drawn_mix) (defScope s__law_drawn_mix) .none kV__law_drawn_mix dc__law_drawn_mix pm__law_drawn_mix an__law_drawn_mix cd__law_drawn_mix ct__law_drawn_mix), sl__law_drawn_mix⟩)
    (c__law_drawn_mix : PySem.W.codeIn K cd__law_drawn_mix "_law_drawn_mix" = true)
    (k__law_drawn_mix : PySem.W.keepIn K (.ref f__law_drawn_mix) = true)
    (a__law_flowing : PySem.W.nsIn K mainGlobals "_law_flowing" = some (some (.ref f__law_flowing)))
    (l__law_flowing : K.lookup f__law_flowing = some ⟨oc__law_flowing, od__law_flowing, .func (PySem.W.fnOf "_law_flowing" "_law_flowing" (defArgs s__law_flowing) (defBody s__law_flowing) (defScope s__law_flowing) .none kV__law_flowing dc__law_flowing pm__law_flowing an__law_flowing cd__law_flowing ct__law_flowing), sl__law_flowing⟩)
    (c__law_flowing : PySem.W.codeIn K cd__law_flowing "_law_flowing" = true)
    (k__law_flowing : PySem.W.keepIn K (.ref f__law_flowing) = true)
    (a__law_kind_of : PySem.W.nsIn K mainGlobals "_law_kind_of" = some (some (.ref f__law_kind_of)))
    (l__law_kind_of : K.lookup f__law_kind_of = some ⟨oc__law_kind_of, od__law_kind_of, .func (PySem.W.fnOf "_law_kind_of" "_law_kind_of" (defArgs s__law_kind_of) (defBody s__law_kind_of) (defScope s__law_kind_of) .none kV__law_kind_of dc__law_kind_of pm__law_kind_of an__law_kind_of cd__law_kind_of ct__law_kind_of), sl__law_kind_of⟩)
    (c__law_kind_of : PySem.W.codeIn K cd__law_kind_of "_law_kind_of" = true)
    (k__law_kind_of : PySem.W.keepIn K (.ref f__law_kind_of) = true)
    (a__law_drawn_paper : PySem.W.nsIn K mainGlobals "_law_drawn_paper" = some (some (.ref f__law_drawn_paper)))
    (l__law_drawn_paper : K.lookup f__law_drawn_paper = some ⟨oc__law_drawn_paper, od__law_drawn_paper, .func (PySem.W.fnOf "_law_drawn_paper" "_law_drawn_paper" (defArgs s__law_drawn_paper) (defBody s__law_drawn_paper) (defScope s__law_drawn_paper) .none kV__law_drawn_paper dc__law_drawn_paper pm__law_drawn_paper an__law_drawn_paper cd__law_drawn_paper ct__law_drawn_paper), sl__law_drawn_paper⟩)
    (c__law_drawn_paper : PySem.W.codeIn K cd__law_drawn_paper "_law_drawn_paper" = true)
    (k__law_drawn_paper : PySem.W.keepIn K (.ref f__law_drawn_paper) = true)
    (a__law_marked : PySem.W.nsIn K mainGlobals "_law_marked" = some (some (.ref f__law_marked)))
    (l__law_marked : K.lookup f__law_marked = some ⟨oc__law_marked, od__law_marked, .func (PySem.W.fnOf "_law_marked" "_law_marked" (defArgs s__law_marked) (defBody s__law_marked) (defScope s__law_marked) .none kV__law_marked dc__law_marked pm__law_marked an__law_marked cd__law_marked ct__law_marked), sl__law_marked⟩)
    (c__law_marked : PySem.W.codeIn K cd__law_marked "_law_marked" = true)
    (k__law_marked : PySem.W.keepIn K (.ref f__law_marked) = true)
    (a__law_once : PySem.W.nsIn K mainGlobals "_law_once" = some (some (.ref f__law_once)))
    (l__law_once : K.lookup f__law_once = some ⟨oc__law_once, od__law_once, .func (PySem.W.fnOf "_law_once" "_law_once" (defArgs s__law_once) (defBody s__law_once) (defScope s__law_once) .none kV__law_once dc__law_once pm__law_once an__law_once cd__law_once ct__law_once), sl__law_once⟩)
    (c__law_once : PySem.W.codeIn K cd__law_once "_law_once" = true)
    (k__law_once : PySem.W.keepIn K (.ref f__law_once) = true)
    (a__law_changed : PySem.W.nsIn K mainGlobals "_law_changed" = some (some (.ref f__law_changed)))
    (l__law_changed : K.lookup f__law_changed = some ⟨oc__law_changed, od__law_changed, .func (PySem.W.fnOf "_law_changed" "_law_changed" (defArgs s__law_changed) (defBody s__law_changed) (defScope s__law_changed) .none kV__law_changed dc__law_changed pm__law_changed an__law_changed cd__law_changed ct__law_changed), sl__law_changed⟩)
    (c__law_changed : PySem.W.codeIn K cd__law_changed "_law_changed" = true)
    (k__law_changed : PySem.W.keepIn K (.ref f__law_changed) = true)
    (a__law_caught_by : PySem.W.nsIn K mainGlobals "_law_caught_by" = some (some (.ref f__law_caught_by)))
    (l__law_caught_by : K.lookup f__law_caught_by = some ⟨oc__law_caught_by, od__law_caught_by, .func (PySem.W.fnOf "_law_caught_by" "_law_caught_by" (defArgs s__law_caught_by) (defBody s__law_caught_by) (defScope s__law_caught_by) .none kV__law_caught_by dc__law_caught_by pm__law_caught_by an__law_caught_by cd__law_caught_by ct__law_caught_by), sl__law_caught_by⟩)
    (c__law_caught_by : PySem.W.codeIn K cd__law_caught_by "_law_caught_by" = true)
    (k__law_caught_by : PySem.W.keepIn K (.ref f__law_caught_by) = true)
    (a_law : PySem.W.nsIn K mainGlobals "law" = some (some (.ref f_law)))
    (l_law : K.lookup f_law = some ⟨oc_law, od_law, .func (PySem.W.fnOf "law" "law" (defArgs s_law) (defBody s_law) (defScope s_law) .none kV_law dc_law pm_law an_law cd_law ct_law), sl_law⟩)
    (c_law : PySem.W.codeIn K cd_law "law" = true)
    (k_law : PySem.W.keepIn K (.ref f_law) = true)
    (z_ValueError : PySem.W.nsIn K mainGlobals "ValueError" = some none)
    (z_bool : PySem.W.nsIn K mainGlobals "bool" = some none)
    (z_int : PySem.W.nsIn K mainGlobals "int" = some none)
    (z_isinstance : PySem.W.nsIn K mainGlobals "isinstance" = some none)
    (z_len : PySem.W.nsIn K mainGlobals "len" = some none)
    (z_list : PySem.W.nsIn K mainGlobals "list" = some none)
    (z_range : PySem.W.nsIn K mainGlobals "range" = some none)
    (z_sorted : PySem.W.nsIn K mainGlobals "sorted" = some none)
    (z_sum : PySem.W.nsIn K mainGlobals "sum" = some none)
    (z_tuple : PySem.W.nsIn K mainGlobals "tuple" = some none)
    (e_HostError : PySem.W.nsIn K mainGlobals "HostError" = some (some (.ref a_HostError)))
    (kk_HostError : PySem.W.clsIn K a_HostError = some cd_HostError)
    (tt_HostError : PySem.W.typeIn K (.ref a_HostError) = some (.type "type"))
    (nn_HostError : PySem.W.subIn K (.type "NoneType") (.ref a_HostError) = some false)
    (e_NoBattle : PySem.W.nsIn K mainGlobals "NoBattle" = some (some (.ref a_NoBattle)))
    (kk_NoBattle : PySem.W.clsIn K a_NoBattle = some cd_NoBattle)
    (tt_NoBattle : PySem.W.typeIn K (.ref a_NoBattle) = some (.type "type"))
    (nn_NoBattle : PySem.W.subIn K (.type "NoneType") (.ref a_NoBattle) = some false)
    (e_NoPlan : PySem.W.nsIn K mainGlobals "NoPlan" = some (some (.ref a_NoPlan)))
    (kk_NoPlan : PySem.W.clsIn K a_NoPlan = some cd_NoPlan)
    (tt_NoPlan : PySem.W.typeIn K (.ref a_NoPlan) = some (.type "type"))
    (nn_NoPlan : PySem.W.subIn K (.type "NoneType") (.ref a_NoPlan) = some false)
    (e_NoMix : PySem.W.nsIn K mainGlobals "NoMix" = some (some (.ref a_NoMix)))
    (kk_NoMix : PySem.W.clsIn K a_NoMix = some cd_NoMix)
    (tt_NoMix : PySem.W.typeIn K (.ref a_NoMix) = some (.type "type"))
    (nn_NoMix : PySem.W.subIn K (.type "NoneType") (.ref a_NoMix) = some false)
    (e_NoStream : PySem.W.nsIn K mainGlobals "NoStream" = some (some (.ref a_NoStream)))
    (kk_NoStream : PySem.W.clsIn K a_NoStream = some cd_NoStream)
    (tt_NoStream : PySem.W.typeIn K (.ref a_NoStream) = some (.type "type"))
    (nn_NoStream : PySem.W.subIn K (.type "NoneType") (.ref a_NoStream) = some false)
    (e_NoSide : PySem.W.nsIn K mainGlobals "NoSide" = some (some (.ref a_NoSide)))
    (kk_NoSide : PySem.W.clsIn K a_NoSide = some cd_NoSide)
    (tt_NoSide : PySem.W.typeIn K (.ref a_NoSide) = some (.type "type"))
    (nn_NoSide : PySem.W.subIn K (.type "NoneType") (.ref a_NoSide) = some false)
    (e_NoAlike : PySem.W.nsIn K mainGlobals "NoAlike" = some (some (.ref a_NoAlike)))
    (kk_NoAlike : PySem.W.clsIn K a_NoAlike = some cd_NoAlike)
    (tt_NoAlike : PySem.W.typeIn K (.ref a_NoAlike) = some (.type "type"))
    (nn_NoAlike : PySem.W.subIn K (.type "NoneType") (.ref a_NoAlike) = some false)
    (e_NoNumber : PySem.W.nsIn K mainGlobals "NoNumber" = some (some (.ref a_NoNumber)))
    (kk_NoNumber : PySem.W.clsIn K a_NoNumber = some cd_NoNumber)
    (tt_NoNumber : PySem.W.typeIn K (.ref a_NoNumber) = some (.type "type"))
    (nn_NoNumber : PySem.W.subIn K (.type "NoneType") (.ref a_NoNumber) = some false)
    (e_TooGreat : PySem.W.nsIn K mainGlobals "TooGreat" = some (some (.ref a_TooGreat)))
    (kk_TooGreat : PySem.W.clsIn K a_TooGreat = some cd_TooGreat)
    (tt_TooGreat : PySem.W.typeIn K (.ref a_TooGreat) = some (.type "type"))
    (nn_TooGreat : PySem.W.subIn K (.type "NoneType") (.ref a_TooGreat) = some false)
    (e_NoEven : PySem.W.nsIn K mainGlobals "NoEven" = some (some (.ref a_NoEven)))
    (kk_NoEven : PySem.W.clsIn K a_NoEven = some cd_NoEven)
    (tt_NoEven : PySem.W.typeIn K (.ref a_NoEven) = some (.type "type"))
    (nn_NoEven : PySem.W.subIn K (.type "NoneType") (.ref a_NoEven) = some false)
    (e_NoText : PySem.W.nsIn K mainGlobals "NoText" = some (some (.ref a_NoText)))
    (kk_NoText : PySem.W.clsIn K a_NoText = some cd_NoText)
    (tt_NoText : PySem.W.typeIn K (.ref a_NoText) = some (.type "type"))
    (nn_NoText : PySem.W.subIn K (.type "NoneType") (.ref a_NoText) = some false)
    (e_NoRow : PySem.W.nsIn K mainGlobals "NoRow" = some (some (.ref a_NoRow)))
    (kk_NoRow : PySem.W.clsIn K a_NoRow = some cd_NoRow)
    (tt_NoRow : PySem.W.typeIn K (.ref a_NoRow) = some (.type "type"))
    (nn_NoRow : PySem.W.subIn K (.type "NoneType") (.ref a_NoRow) = some false)
    (e_NoName : PySem.W.nsIn K mainGlobals "NoName" = some (some (.ref a_NoName)))
    (kk_NoName : PySem.W.clsIn K a_NoName = some cd_NoName)
    (tt_NoName : PySem.W.typeIn K (.ref a_NoName) = some (.type "type"))
    (nn_NoName : PySem.W.subIn K (.type "NoneType") (.ref a_NoName) = some false)
    (e_NoPlace : PySem.W.nsIn K mainGlobals "NoPlace" = some (some (.ref a_NoPlace)))
    (kk_NoPlace : PySem.W.clsIn K a_NoPlace = some cd_NoPlace)
    (tt_NoPlace : PySem.W.typeIn K (.ref a_NoPlace) = some (.type "type"))
    (nn_NoPlace : PySem.W.subIn K (.type "NoneType") (.ref a_NoPlace) = some false)
    (bb_HostError : PySem.W.subIn K (.ref a_HostError) (.type "BaseException") = some true)
    (x_NoNumber : PySem.W.excIn K a_NoNumber bmV newV = true)
    (f1_NoNumber : PySem.W.findIn K (.ref a_NoNumber) "__getattribute__" = some (some (.builtin "BaseException.__getattribute__")))
    (f2_NoNumber : PySem.W.findIn K (.ref a_NoNumber) "__getattr__" = some none)
    (f3_NoNumber : PySem.W.findIn K (.ref a_NoNumber) "__class__" = some (some (.builtin "object.__class__")))
    (f4_NoNumber : PySem.W.subIn K (.ref a_NoNumber) (.type "BaseException") = some true)
    (f5_NoNumber : PySem.W.mroIn K a_NoNumber (.type "object") = some true)
    (f6_NoNumber : PySem.W.subIn K (.ref a_NoNumber) (.type "ValueError") = some true)
    (s_NoNumber_HostError : PySem.W.subIn K (.ref a_NoNumber) (.ref a_HostError) = some true)
    (s_NoNumber_NoBattle : PySem.W.subIn K (.ref a_NoNumber) (.ref a_NoBattle) = some false)
    (s_NoNumber_NoPlan : PySem.W.subIn K (.ref a_NoNumber) (.ref a_NoPlan) = some false)
    (s_NoNumber_NoMix : PySem.W.subIn K (.ref a_NoNumber) (.ref a_NoMix) = some false)
    (s_NoNumber_NoStream : PySem.W.subIn K (.ref a_NoNumber) (.ref a_NoStream) = some false)
    (s_NoNumber_NoSide : PySem.W.subIn K (.ref a_NoNumber) (.ref a_NoSide) = some false)
    (s_NoNumber_NoAlike : PySem.W.subIn K (.ref a_NoNumber) (.ref a_NoAlike) = some false)
    (s_NoNumber_NoNumber : PySem.W.subIn K (.ref a_NoNumber) (.ref a_NoNumber) = some true)
    (s_NoNumber_TooGreat : PySem.W.subIn K (.ref a_NoNumber) (.ref a_TooGreat) = some false)
    (s_NoNumber_NoEven : PySem.W.subIn K (.ref a_NoNumber) (.ref a_NoEven) = some false)
    (s_NoNumber_NoText : PySem.W.subIn K (.ref a_NoNumber) (.ref a_NoText) = some false)
    (s_NoNumber_NoRow : PySem.W.subIn K (.ref a_NoNumber) (.ref a_NoRow) = some false)
    (s_NoNumber_NoName : PySem.W.subIn K (.ref a_NoNumber) (.ref a_NoName) = some false)
    (s_NoNumber_NoPlace : PySem.W.subIn K (.ref a_NoNumber) (.ref a_NoPlace) = some false) :
    ∃ fd : FuncData, (∀ (s : Shared) (v : Value), BindsTo s fd ⟨[v], []⟩ [("_law_script", v)]) ∧ ∀ base : Heap, K.In base → base.Ns mainGlobals mg → FnOk l.prog w K mg base CX0 8 fa fd ["_law_script"] (spLaw K) := by
  have e := hfa.symm.trans (PySem.W.mg_of X G a_law)
  cases e
  have N : Nm mg := ⟨PySem.W.mg_none_of X G z_ValueError, PySem.W.mg_none_of X G z_bool, PySem.W.mg_none_of X G z_int, PySem.W.mg_none_of X G z_isinstance, PySem.W.mg_none_of X G z_len, PySem.W.mg_none_of X G z_list, PySem.W.mg_none_of X G z_range, PySem.W.mg_none_of X G z_sorted, PySem.W.mg_none_of X G z_sum, PySem.W.mg_none_of X G z_tuple⟩
  have F_is_whole := fun_mk (st := s_is_whole) l_is_whole c_is_whole k_is_whole
  have F_is_from := fun_mk (st := s_is_from) l_is_from c_is_from k_is_from
  have F_look_many := fun_mk (st := s_look_many) l_look_many c_look_many k_look_many
  have F_row_times := fun_mk (st := s_row_times) l_row_times c_row_times k_row_times
  have F_table_times := fun_mk (st := s_table_times) l_table_times c_table_times k_table_times
  have F_paper_times := fun_mk (st := s_paper_times) l_paper_times c_paper_times k_paper_times
  have F_paper_exchanged := fun_mk (st := s_paper_exchanged) l_paper_exchanged c_paper_exchanged k_paper_exchanged
  have F_paper_scaled := fun_mk (st := s_paper_scaled) l_paper_scaled c_paper_scaled k_paper_scaled
  have F__law_stirred := fun_mk (st := s__law_stirred) l__law_stirred c__law_stirred k__law_stirred
  have F__law_opened := fun_mk (st := s__law_opened) l__law_opened c__law_opened k__law_opened
  have F__law_draw := fun_mk (st := s__law_draw) l__law_draw c__law_draw k__law_draw
  have F__law_drawn_plan := fun_mk (st := s__law_drawn_plan) l__law_drawn_plan c__law_drawn_plan k__law_drawn_plan
  have F__law_drawn_mix := fun_mk (st := s__law_drawn_mix) l__law_drawn_mix c__law_drawn_mix k__law_drawn_mix
  have F__law_flowing := fun_mk (st := s__law_flowing) l__law_flowing c__law_flowing k__law_flowing
  have F__law_kind_of := fun_mk (st := s__law_kind_of) l__law_kind_of c__law_kind_of k__law_kind_of
  have F__law_drawn_paper := fun_mk (st := s__law_drawn_paper) l__law_drawn_paper c__law_drawn_paper k__law_drawn_paper
  have F__law_marked := fun_mk (st := s__law_marked) l__law_marked c__law_marked k__law_marked
  have F__law_once := fun_mk (st := s__law_once) l__law_once c__law_once k__law_once
  have F__law_changed := fun_mk (st := s__law_changed) l__law_changed c__law_changed k__law_changed
  have F__law_caught_by := fun_mk (st := s__law_caught_by) l__law_caught_by c__law_caught_by k__law_caught_by
  have F_law := fun_mk (st := s_law) l_law c_law k_law
  refine ⟨PySem.W.fnOf "law" "law" (defArgs s_law) (defBody s_law) (defScope s_law) .none kV_law dc_law pm_law an_law cd_law ct_law, fun s v => .of_eq rfl, fun base XB GB => ?_⟩
  have Z : Cz K mg base a_HostError a_NoBattle a_NoPlan a_NoMix a_NoStream a_NoSide a_NoAlike a_NoNumber a_TooGreat a_NoEven a_NoText a_NoRow a_NoName a_NoPlace := ⟨PySem.W.mg_of X G e_HostError, PySem.W.mg_of X G e_NoBattle, PySem.W.mg_of X G e_NoPlan, PySem.W.mg_of X G e_NoMix, PySem.W.mg_of X G e_NoStream, PySem.W.mg_of X G e_NoSide, PySem.W.mg_of X G e_NoAlike, PySem.W.mg_of X G e_NoNumber, PySem.W.mg_of X G e_TooGreat, PySem.W.mg_of X G e_NoEven, PySem.W.mg_of X G e_NoText, PySem.W.mg_of X G e_NoRow, PySem.W.mg_of X G e_NoName, PySem.W.mg_of X G e_NoPlace, own_of_K XB GB e_NoNumber x_NoNumber, ⟨f1_NoNumber, f2_NoNumber, f3_NoNumber, f4_NoNumber, f5_NoNumber⟩, by rw [kk_NoNumber]; rfl, exm_ref bb_HostError kk_HostError tt_HostError s_NoNumber_HostError, kit_ValueError f6_NoNumber, kit_ref kk_HostError tt_HostError s_NoNumber_HostError s_NoNumber_NoNumber, kit_ref kk_NoBattle tt_NoBattle s_NoNumber_NoBattle s_NoNumber_NoNumber, kit_ref kk_NoPlan tt_NoPlan s_NoNumber_NoPlan s_NoNumber_NoNumber, kit_ref kk_NoMix tt_NoMix s_NoNumber_NoMix s_NoNumber_NoNumber, kit_ref kk_NoStream tt_NoStream s_NoNumber_NoStream s_NoNumber_NoNumber, kit_ref kk_NoSide tt_NoSide s_NoNumber_NoSide s_NoNumber_NoNumber, kit_ref kk_NoAlike tt_NoAlike s_NoNumber_NoAlike s_NoNumber_NoNumber, kit_ref kk_NoNumber tt_NoNumber s_NoNumber_NoNumber s_NoNumber_NoNumber, kit_ref kk_TooGreat tt_TooGreat s_NoNumber_TooGreat s_NoNumber_NoNumber, kit_ref kk_NoEven tt_NoEven s_NoNumber_NoEven s_NoNumber_NoNumber, kit_ref kk_NoText tt_NoText s_NoNumber_NoText s_NoNumber_NoNumber, kit_ref kk_NoRow tt_NoRow s_NoNumber_NoRow s_NoNumber_NoNumber, kit_ref kk_NoName tt_NoName s_NoNumber_NoName s_NoNumber_NoNumber, kit_ref kk_NoPlace tt_NoPlace s_NoNumber_NoPlace s_NoNumber_NoNumber, kit_none kk_HostError tt_HostError nn_HostError, kit_none kk_NoBattle tt_NoBattle nn_NoBattle, kit_none kk_NoPlan tt_NoPlan nn_NoPlan, kit_none kk_NoMix tt_NoMix nn_NoMix, kit_none kk_NoStream tt_NoStream nn_NoStream, kit_none kk_NoSide tt_NoSide nn_NoSide, kit_none kk_NoAlike tt_NoAlike nn_NoAlike, kit_none kk_NoNumber tt_NoNumber nn_NoNumber, kit_none kk_TooGreat tt_TooGreat nn_TooGreat, kit_none kk_NoEven tt_NoEven nn_NoEven, kit_none kk_NoText tt_NoText nn_NoText, kit_none kk_NoRow tt_NoRow nn_NoRow, kit_none kk_NoName tt_NoName nn_NoName, kit_none kk_NoPlace tt_NoPlace nn_NoPlace⟩
  have D_is_whole : Def l.prog w K mg base CX0 1 "is_whole" ["thing"] sp_is_whole := ⟨⟨_, _, ok_is_whole (P := l.prog) (w := w) (base := base) F_is_whole N , PySem.W.mg_of X G a_is_whole, k_is_whole, F_is_whole.binds fun _ _ _ _ _ _ us hl => match us, hl with | [_], _ => rfl⟩⟩
  have D_is_from : Def l.prog w K mg base CX0 2 "is_from" ["thing", "least"] sp_is_from := ⟨⟨_, _, ok_is_from (P := l.prog) (w := w) (base := base) F_is_from N D_is_whole, PySem.W.mg_of X G a_is_from, k_is_from, F_is_from.binds fun _ _ _ _ _ _ us hl => match us, hl with | [_, _], _ => rfl⟩⟩
  have D_look_many : Def l.prog w K mg base (CXR l.prog w) 3 "look_many" ["many"] (sp_look_many a_NoNumber) := ⟨⟨_, _, ok_look_many (P := l.prog) (w := w) (base := base) F_look_many N D_is_from Z, PySem.W.mg_of X G a_look_many, k_look_many, F_look_many.binds fun _ _ _ _ _ _ us hl => match us, hl with | [_], _ => rfl⟩⟩
  have D_row_times : Def l.prog w K mg base CX0 1 "row_times" ["row", "many"] sp_row_times := ⟨⟨_, _, ok_row_times (P := l.prog) (w := w) (base := base) F_row_times N , PySem.W.mg_of X G a_row_times, k_row_times, F_row_times.binds fun _ _ _ _ _ _ us hl => match us, hl with | [_, _], _ => rfl⟩⟩
  have D_table_times : Def l.prog w K mg base CX0 2 "table_times" ["rows", "many"] sp_table_times := ⟨⟨_, _, ok_table_times (P := l.prog) (w := w) (base := base) F_table_times N D_row_times, PySem.W.mg_of X G a_table_times, k_table_times, F_table_times.binds fun _ _ _ _ _ _ us hl => match us, hl with | [_, _], _ => rfl⟩⟩
  have D_paper_times : Def l.prog w K mg base CX0 3 "paper_times" ["paper", "many"] sp_paper_times := ⟨⟨_, _, ok_paper_times (P := l.prog) (w := w) (base := base) F_paper_times N D_table_times, PySem.W.mg_of X G a_paper_times, k_paper_times, F_paper_times.binds fun _ _ _ _ _ _ us hl => match us, hl with | [_, _], _ => rfl⟩⟩
  have D_paper_exchanged : Def l.prog w K mg base CX0 4 "paper_exchanged" ["paper"] sp_paper_exchanged := ⟨⟨_, _, ok_paper_exchanged (P := l.prog) (w := w) (base := base) F_paper_exchanged N D_paper_times, PySem.W.mg_of X G a_paper_exchanged, k_paper_exchanged, F_paper_exchanged.binds fun _ _ _ _ _ _ us hl => match us, hl with | [_], _ => rfl⟩⟩
  have D_paper_scaled : Def l.prog w K mg base (CXR l.prog w) 4 "paper_scaled" ["paper", "many"] (sp_paper_scaled a_NoNumber) := ⟨⟨_, _, ok_paper_scaled (P := l.prog) (w := w) (base := base) F_paper_scaled N D_look_many D_paper_times, PySem.W.mg_of X G a_paper_scaled, k_paper_scaled, F_paper_scaled.binds fun _ _ _ _ _ _ us hl => match us, hl with | [_, _], _ => rfl⟩⟩
  have D__law_stirred : Def l.prog w K mg base CX0 1 "_law_stirred" ["_law_number", "_law_k"] sp__law_stirred := ⟨⟨_, _, ok__law_stirred (P := l.prog) (w := w) (base := base) F__law_stirred N , PySem.W.mg_of X G a__law_stirred, k__law_stirred, F__law_stirred.binds fun _ _ _ _ _ _ us hl => match us, hl with | [_, _], _ => rfl⟩⟩
  have D__law_opened : Def l.prog w K mg base CX0 1 "_law_opened" ["_law_cell"] sp__law_opened := ⟨⟨_, _, ok__law_opened (P := l.prog) (w := w) (base := base) F__law_opened N , PySem.W.mg_of X G a__law_opened, k__law_opened, F__law_opened.binds fun _ _ _ _ _ _ us hl => match us, hl with | [_], _ => rfl⟩⟩
  have D__law_draw : Def l.prog w K mg base CX0 2 "_law_draw" ["_law_left", "_law_base"] sp__law_draw := ⟨⟨_, _, ok__law_draw (P := l.prog) (w := w) (base := base) F__law_draw N D__law_stirred, PySem.W.mg_of X G a__law_draw, k__law_draw, F__law_draw.binds fun _ _ _ _ _ _ us hl => match us, hl with | [_, _], _ => rfl⟩⟩
  have D__law_drawn_plan : Def l.prog w K mg base CX0 3 "_law_drawn_plan" ["_law_left", "_law_hosts", "_law_many"] sp__law_drawn_plan := ⟨⟨_, _, ok__law_drawn_plan (P := l.prog) (w := w) (base := base) F__law_drawn_plan N D__law_draw, PySem.W.mg_of X G a__law_drawn_plan, k__law_drawn_plan, F__law_drawn_plan.binds fun _ _ _ _ _ _ us hl => match us, hl with | [_, _, _], _ => rfl⟩⟩
  have D__law_drawn_mix : Def l.prog w K mg base CX0 4 "_law_drawn_mix" ["_law_left", "_law_hosts", "_law_many", "_law_most"] sp__law_drawn_mix := ⟨⟨_, _, ok__law_drawn_mix (P := l.prog) (w := w) (base := base) F__law_drawn_mix N D__law_draw D__law_drawn_plan, PySem.W.mg_of X G a__law_drawn_mix, k__law_drawn_mix, F__law_drawn_mix.binds fun _ _ _ _ _ _ us hl => match us, hl with | [_, _, _, _], _ => rfl⟩⟩
  have D__law_flowing : Def l.prog w K mg base CX0 1 "_law_flowing" ["_law_mix"] sp__law_flowing := ⟨⟨_, _, ok__law_flowing (P := l.prog) (w := w) (base := base) F__law_flowing N , PySem.W.mg_of X G a__law_flowing, k__law_flowing, F__law_flowing.binds fun _ _ _ _ _ _ us hl => match us, hl with | [_], _ => rfl⟩⟩
  have D__law_kind_of : Def l.prog w K mg base CX0 1 "_law_kind_of" ["_law_caught"] (sp__law_kind_of a_NoNumber) := ⟨⟨_, _, ok__law_kind_of (P := l.prog) (w := w) (base := base) F__law_kind_of N Z, PySem.W.mg_of X G a__law_kind_of, k__law_kind_of, F__law_kind_of.binds fun _ _ _ _ _ _ us hl => match us, hl with | [_], _ => rfl⟩⟩
  have D__law_drawn_paper : Def l.prog w K mg base CX0 5 "_law_drawn_paper" ["_law_left"] sp__law_drawn_paper := ⟨⟨_, _, ok__law_drawn_paper (P := l.prog) (w := w) (base := base) F__law_drawn_paper N D__law_draw D__law_drawn_mix D__law_flowing, PySem.W.mg_of X G a__law_drawn_paper, k__law_drawn_paper, F__law_drawn_paper.binds fun _ _ _ _ _ _ us hl => match us, hl with | [_], _ => rfl⟩⟩
  have D__law_marked : Def l.prog w K mg base CX0 7 "_law_marked" ["_law_thing"] sp__law_marked := ⟨⟨_, _, ok__law_marked (P := l.prog) (w := w) (base := base) F__law_marked N  (PySem.W.mg_of X G a__law_marked) k__law_marked (F__law_marked.binds fun _ _ _ _ _ _ us hl => match us, hl with | [_], _ => rfl), PySem.W.mg_of X G a__law_marked, k__law_marked, F__law_marked.binds fun _ _ _ _ _ _ us hl => match us, hl with | [_], _ => rfl⟩⟩
  have D__law_once : Def l.prog w K mg base CX0 7 "_law_once" ["_law_thing"] sp__law_once := ⟨⟨_, _, ok__law_once (P := l.prog) (w := w) (base := base) F__law_once N  (PySem.W.mg_of X G a__law_once) k__law_once (F__law_once.binds fun _ _ _ _ _ _ us hl => match us, hl with | [_], _ => rfl), PySem.W.mg_of X G a__law_once, k__law_once, F__law_once.binds fun _ _ _ _ _ _ us hl => match us, hl with | [_], _ => rfl⟩⟩
  have D__law_changed : Def l.prog w K mg base CX0 5 "_law_changed" ["_law_way", "_law_paper", "_law_many"] sp__law_changed := ⟨⟨_, _, ok__law_changed (P := l.prog) (w := w) (base := base) F__law_changed N D_paper_exchanged D_paper_scaled, PySem.W.mg_of X G a__law_changed, k__law_changed, F__law_changed.binds fun _ _ _ _ _ _ us hl => match us, hl with | [_, _, _], _ => rfl⟩⟩
  have D__law_caught_by : Def l.prog w K mg base CX0 5 "_law_caught_by" ["_law_paper", "_law_many"] sp__law_caught_by := ⟨⟨_, _, ok__law_caught_by (P := l.prog) (w := w) (base := base) F__law_caught_by N D__law_kind_of D_paper_scaled Z, PySem.W.mg_of X G a__law_caught_by, k__law_caught_by, F__law_caught_by.binds fun _ _ _ _ _ _ us hl => match us, hl with | [_, _], _ => rfl⟩⟩
  exact ok_law (P := l.prog) (w := w) (base := base) F_law N D__law_caught_by D__law_changed D__law_draw D__law_drawn_paper D__law_marked D__law_once D__law_opened D_paper_exchanged D_paper_scaled
theorem walk {l : PySem.W.OpenLaw} {q : Program} {loose : List Str} {XP : (Str → Option Value) → Heap → Prop} {YP : World → Heap → Prop} {d : DefRec} {K : Params → PySem.W.Frag} (hn : l.most = some 63) (hdf : d.params.defaults = [])
    (hY : ∀ (w : World) (h : Heap), YP w h → (K w.params).In h)
    (F : ∀ (w : World) (mg : Str → Option Value) (fa : Addr) (h : Heap), (K w.params).In h → h.Ns mainGlobals mg → mg d.name = some (.ref fa) →
      ∃ fd : FuncData, (∀ (s : Shared) (u : Value), BindsTo s fd ⟨[u], []⟩ [("_law_script", u)]) ∧ ∀ base : Heap, (K w.params).In base → base.Ns mainGlobals mg → FnOk l.prog w (K w.params) mg base CX0 8 fa fd ["_law_script"] (spLaw (K w.params))) :
    PySem.W.WalkO q loose XP YP l.row.toRowW d [] (fun f vs => PySem.call f vs) :=
  L2.walk_of (n := 63) (k := 8) (x := "_law_script") (CX := fun _ => CX0) (sp := fun w => spLaw (K w.params)) hn (by decide) hdf ⟨rfl, by decide, by decide⟩ hY F (fun _ _ a ns hl _ hS => ⟨a, ns, rfl, hS, hl, fun _ => rfl⟩) fun _ _ _ _ _ z => z
end G
theorem PySem.W.Fast.tw14900682480323983244 : True := trivial
theorem PySem.W.Fast.tw10533283260795340372 : True := trivial
theorem PySem.W.Fast.tw9569491745067603668 : True := trivial
theorem PySem.W.Fast.tw8000018231238469884 : True := trivial
theorem PySem.W.Fast.tw16790311004219335232 : True := trivial
theorem PySem.W.Fast.tw5951628321635694933 : True := trivial
theorem PySem.W.Fast.tw2876122184528811817 : True := trivial
theorem PySem.W.Fast.tw5417821623489382618 : True := trivial
theorem PySem.W.Fast.tw11470263502343252112 : True := trivial
theorem PySem.W.Fast.tw7203222338996453342 : True := trivial
theorem PySem.W.Fast.tw2331825689734076749 : True := trivial
theorem PySem.W.Fast.tw10502838045165318867 : True := trivial
theorem PySem.W.Fast.tw14607294986629298645 : True := trivial
theorem PySem.W.Fast.tw14742491589841551080 : True := trivial
theorem PySem.W.Fast.tw12396807559725254279 : True := trivial
theorem PySem.W.Fast.tw4672395701128972338 : True := trivial
theorem PySem.W.Fast.tw16175940992469891320 : True := trivial
theorem PySem.W.Fast.tw7765101848876722917 : True := trivial
theorem PySem.W.Fast.tw18342619650264785892 : True := trivial
theorem PySem.W.Fast.tw2706835851519964686 : True := trivial
open PySem PySem.W PyProof.Rows
set_option maxRecDepth 100000 in
set_option maxHeartbeats 0 in
theorem PySem.Challenge.cw_hostfields_k67_papers_changed_holds : PySem.Challenge.rw_hostfields_k67_papers_changed.Holds := by
  w_on; o_law; k_head; (case hw => w_witness2)
  k_fill
  refine G.walk (l := PySem.Challenge.rw_hostfields_k67_papers_changed) rfl rfl (fun w h Y => PySem.W.kIn_of Y) ?F
  case F =>
    intro w mg fa h KX GG hmg
    refine' G.all_mk KX GG hmg ?a_is_whole ?l_is_whole ?c_is_whole ?k_is_whole ?a_is_from ?l_is_from ?c_is_from ?k_is_from ?a_look_many ?l_look_many ?c_look_many ?k_look_many ?a_row_times ?l_row_times ?c_row_times ?k_row_times ?a_table_times ?l_table_times ?c_table_times ?k_table_times ?a_paper_times ?l_paper_times ?c_paper_times ?k_paper_times ?a_paper_exchanged ?l_paper_exchanged ?c_paper_exchanged ?k_paper_exchanged ?a_paper_scaled ?l_paper_scaled ?c_paper_scaled ?k_paper_scaled ?a__law_stirred ?l__law_stirred ?c__law_stirred ?k__law_stirred ?a__law_opened ?l__law_opened ?c__law_opened ?k__law_opened ?a__law_draw ?l__law_draw ?c__law_draw ?k__law_draw ?a__law_drawn_plan ?l__law_drawn_plan ?c__law_drawn_plan ?k__law_drawn_plan ?a__law_drawn_mix ?l__law_drawn_mix ?c__law_drawn_mix ?k__law_drawn_mix ?a__law_flowing ?l__law_flowing ?c__law_flowing ?k__law_flowing ?a__law_kind_of ?l__law_kind_of ?c__law_kind_of ?k__law_kind_of ?a__law_drawn_paper ?l__law_drawn_paper ?c__law_drawn_paper ?k__law_drawn_paper ?a__law_marked ?l__law_marked ?c__law_marked ?k__law_marked ?a__law_once ?l__law_once ?c__law_once ?k__law_once ?a__law_changed ?l__law_changed ?c__law_changed ?k__law_changed ?a__law_caught_by ?l__law_caught_by ?c__law_caught_by ?k__law_caught_by ?a_law ?l_law ?c_law ?k_law ?z_ValueError ?z_bool ?z_int ?z_isinstance ?z_len ?z_list ?z_range ?z_sorted ?z_sum ?z_tuple ?e_HostError ?kk_HostError ?tt_HostError ?nn_HostError ?e_NoBattle ?kk_NoBattle ?tt_NoBattle ?nn_NoBattle ?e_NoPlan ?kk_NoPlan ?tt_NoPlan ?nn_NoPlan ?e_NoMix ?kk_NoMix ?tt_NoMix ?nn_NoMix ?e_NoStream ?kk_NoStream ?tt_NoStream ?nn_NoStream ?e_NoSide ?kk_NoSide ?tt_NoSide ?nn_NoSide ?e_NoAlike ?kk_NoAlike ?tt_NoAlike ?nn_NoAlike ?e_NoNumber ?kk_NoNumber ?tt_NoNumber ?nn_NoNumber ?e_TooGreat ?kk_TooGreat ?tt_TooGreat ?nn_TooGreat ?e_NoEven ?kk_NoEven ?tt_NoEven ?nn_NoEven ?e_NoText ?kk_NoText ?tt_NoText ?nn_NoText ?e_NoRow ?kk_NoRow ?tt_NoRow ?nn_NoRow ?e_NoName ?kk_NoName ?tt_NoName ?nn_NoName ?e_NoPlace ?kk_NoPlace ?tt_NoPlace ?nn_NoPlace ?bb_HostError ?x_NoNumber ?f1_NoNumber ?f2_NoNumber ?f3_NoNumber ?f4_NoNumber ?f5_NoNumber ?f6_NoNumber ?s_NoNumber_HostError ?s_NoNumber_NoBattle ?s_NoNumber_NoPlan ?s_NoNumber_NoMix ?s_NoNumber_NoStream ?s_NoNumber_NoSide ?s_NoNumber_NoAlike ?s_NoNumber_NoNumber ?s_NoNumber_TooGreat ?s_NoNumber_NoEven ?s_NoNumber_NoText ?s_NoNumber_NoRow ?s_NoNumber_NoName ?s_NoNumber_NoPlace
    (case a_is_whole => k_is)
    (case l_is_whole => k_is)
    (case c_is_whole => k_is)
    (case k_is_whole => k_is)
    (case a_is_from => k_is)
    (case l_is_from => k_is)
    (case c_is_from => k_is)
    (case k_is_from => k_is)
    (case a_look_many => k_is)
    (case l_look_many => k_is)
    (case c_look_many => k_is)
    (case k_look_many => k_is)
    (case a_row_times => k_is)
    (case l_row_times => k_is)
    (case c_row_times => k_is)
    (case k_row_times => k_is)
    (case a_table_times => k_is)
    (case l_table_times => k_is)
    (case c_table_times => k_is)
    (case k_table_times => k_is)
    (case a_paper_times => k_is)
    (case l_paper_times => k_is)
    (case c_paper_times => k_is)
    (case k_paper_times => k_is)
    (case a_paper_exchanged => k_is)
    (case l_paper_exchanged => k_is)
    (case c_paper_exchanged => k_is)
    (case k_paper_exchanged => k_is)
    (case a_paper_scaled => k_is)
    (case l_paper_scaled => k_is)
    (case c_paper_scaled => k_is)
    (case k_paper_scaled => k_is)
    (case a__law_stirred => k_is)
    (case l__law_stirred => k_is)
    (case c__law_stirred => k_is)
    (case k__law_stirred => k_is)
    (case a__law_opened => k_is)
    (case l__law_opened => k_is)
    (case c__law_opened => k_is)
    (case k__law_opened => k_is)
    (case a__law_draw => k_is)
    (case l__law_draw => k_is)
    (case c__law_draw => k_is)
    (case k__law_draw => k_is)
    (case a__law_drawn_plan => k_is)
    (case l__law_drawn_plan => k_is)
    (case c__law_drawn_plan => k_is)
    (case k__law_drawn_plan => k_is)
    (case a__law_drawn_mix => k_is)
    (case l__law_drawn_mix => k_is)
    (case c__law_drawn_mix => k_is)
    (case k__law_drawn_mix => k_is)
    (case a__law_flowing => k_is)
    (case l__law_flowing => k_is)
    (case c__law_flowing => k_is)
    (case k__law_flowing => k_is)
    (case a__law_kind_of => k_is)
    (case l__law_kind_of => k_is)
    (case c__law_kind_of => k_is)
    (case k__law_kind_of => k_is)
    (case a__law_drawn_paper => k_is)
    (case l__law_drawn_paper => k_is)
    (case c__law_drawn_paper => k_is)
    (case k__law_drawn_paper => k_is)
    (case a__law_marked => k_is)
    (case l__law_marked => k_is)
    (case c__law_marked => k_is)
    (case k__law_marked => k_is)
    (case a__law_once => k_is)
    (case l__law_once => k_is)
    (case c__law_once => k_is)
    (case k__law_once => k_is)
    (case a__law_changed => k_is)
    (case l__law_changed => k_is)
    (case c__law_changed => k_is)
    (case k__law_changed => k_is)
    (case a__law_caught_by => k_is)
    (case l__law_caught_by => k_is)
    (case c__law_caught_by => k_is)
    (case k__law_caught_by => k_is)
    (case a_law => k_is)
    (case l_law => k_is)
    (case c_law => k_is)
    (case k_law => k_is)
    (case z_ValueError => k_is)
    (case z_bool => k_is)
    (case z_int => k_is)
    (case z_isinstance => k_is)
    (case z_len => k_is)
    (case z_list => k_is)
    (case z_range => k_is)
    (case z_sorted => k_is)
    (case z_sum => k_is)
    (case z_tuple => k_is)
    (case e_HostError => k_is)
    (case kk_HostError => k_is)
    (case tt_HostError => k_is)
    (case nn_HostError => k_is)
    (case e_NoBattle => k_is)
    (case kk_NoBattle => k_is)
    (case tt_NoBattle => k_is)
    (case nn_NoBattle => k_is)
    (case e_NoPlan => k_is)
    (case kk_NoPlan => k_is)
    (case tt_NoPlan => k_is)
    (case nn_NoPlan => k_is)
    (case e_NoMix => k_is)
    (case kk_NoMix => k_is)
    (case tt_NoMix => k_is)
    (case nn_NoMix => k_is)
    (case e_NoStream => k_is)
    (case kk_NoStream => k_is)
    (case tt_NoStream => k_is)
    (case nn_NoStream => k_is)
    (case e_NoSide => k_is)
    (case kk_NoSide => k_is)
    (case tt_NoSide => k_is)
    (case nn_NoSide => k_is)
    (case e_NoAlike => k_is)
    (case kk_NoAlike => k_is)
    (case tt_NoAlike => k_is)
    (case nn_NoAlike => k_is)
    (case e_NoNumber => k_is)
    (case kk_NoNumber => k_is)
    (case tt_NoNumber => k_is)
    (case nn_NoNumber => k_is)
    (case e_TooGreat => k_is)
    (case kk_TooGreat => k_is)
    (case tt_TooGreat => k_is)
    (case nn_TooGreat => k_is)
    (case e_NoEven => k_is)
    (case kk_NoEven => k_is)
    (case tt_NoEven => k_is)
    (case nn_NoEven => k_is)
    (case e_NoText => k_is)
    (case kk_NoText => k_is)
    (case tt_NoText => k_is)
    (case nn_NoText => k_is)
    (case e_NoRow => k_is)
    (case kk_NoRow => k_is)
    (case tt_NoRow => k_is)
    (case nn_NoRow => k_is)
    (case e_NoName => k_is)
    (case kk_NoName => k_is)
    (case tt_NoName => k_is)
    (case nn_NoName => k_is)
    (case e_NoPlace => k_is)
    (case kk_NoPlace => k_is)
    (case tt_NoPlace => k_is)
    (case nn_NoPlace => k_is)
    (case bb_HostError => k_is)
    (case x_NoNumber => k_exc)
    (case f1_NoNumber => k_is)
    (case f2_NoNumber => k_is)
    (case f3_NoNumber => k_is)
    (case f4_NoNumber => k_is)
    (case f5_NoNumber => k_is)
    (case f6_NoNumber => k_is)
    (case s_NoNumber_HostError => k_is)
    (case s_NoNumber_NoBattle => k_is)
    (case s_NoNumber_NoPlan => k_is)
    (case s_NoNumber_NoMix => k_is)
    (case s_NoNumber_NoStream => k_is)
    (case s_NoNumber_NoSide => k_is)
    (case s_NoNumber_NoAlike => k_is)
    (case s_NoNumber_NoNumber => k_is)
    (case s_NoNumber_TooGreat => k_is)
    (case s_NoNumber_NoEven => k_is)
    (case s_NoNumber_NoText => k_is)
    (case s_NoNumber_NoRow => k_is)
    (case s_NoNumber_NoName => k_is)
    (case s_NoNumber_NoPlace => k_is)
