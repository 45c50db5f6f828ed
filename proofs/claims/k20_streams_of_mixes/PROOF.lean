import PyProof.Rows.All
import Wide.All
import OpenK.AllK
import Wide.FinOn
import Lean
import PyProof.EqAt
import PyProof.EqKinds
import PyProof.TupleCall
import PyProof.NeKinds
import PyProof.CompFree
import PyProof.EnumMake
import KE.KTryMore
import PyProof.ExcArgsOwn
import PyProof.ZipIter
import PyProof.ListRange
import KE.KIsAll
import PyProof.InstStoreFacts
import PyProof.ExcInit
import PyProof.ReprRoads
import PyProof.CallStr
import KE.KEqDict
import PyProof.EqLayable
import PyProof.StrLawsRepr
import PySem.Challenge.RW_hostfields_k20_streams_of_mixes
set_option Elab.async false
set_option linter.all false
set_option maxRecDepth 100000
/-! THE HAND LAYER, for ints, bools, texts, own classes, LISTS and tuples (index, slices, in, append, pop ..), calls, loops. Paste it whole ahead of your own text; what your proof does not reach may be deleted. -/
namespace L2
open PySem PySem.Spec PyProof.Rows

/-- a key: an int or a str -/
abbrev Key := Sum Int Str
def keyIs : Key → Value → Bool
  | .inl k, v => Value.isInt k v
  | .inr x, v => Value.isStrOf x v
def keyH (w : World) : Key → Int
  | .inl k => hashInt k
  | .inr x => hashStr w x
theorem keyIs_shape : ∀ {k : Key} {v : Value}, keyIs k v = true → (∃ i t, k = Sum.inl i ∧ v = Value.int i t) ∨ (∃ x t, k = Sum.inr x ∧ v = Value.str x t)
  | .inl i, v, h => by
    obtain ⟨t, e⟩ := Value.isInt_shape (k := i) (v := v) h
    exact .inl ⟨i, t, rfl, e⟩
  | .inr x, v, h => by
    obtain ⟨t, e⟩ := Value.isStrOf_shape (x := x) (v := v) h
    exact .inr ⟨x, t, rfl, e⟩
theorem keyIs_int (i : Int) (t : Tok) : keyIs (.inl i) (.int i t) = true := by simp [keyIs, Value.isInt]
theorem keyIs_str (x : Str) (t : Tok) : keyIs (.inr x) (.str x t) = true := by simp [keyIs, Value.isStrOf]
theorem key_ll (a b : Int) : decide ((Sum.inl a : Key) = Sum.inl b) = (a == b) := by
  by_cases e : a = b
  · subst e; simp
  · have h : ¬ (Sum.inl a : Key) = Sum.inl b := fun q => e (Sum.inl.inj q)
    rw [decide_eq_false h]
    exact (beq_eq_false_iff_ne.mpr e).symm
theorem key_rr (a b : Str) : decide ((Sum.inr a : Key) = Sum.inr b) = decide (a = b) := by
  by_cases e : a = b
  · subst e; simp
  · have h : ¬ (Sum.inr a : Key) = Sum.inr b := fun q => e (Sum.inr.inj q)
    rw [decide_eq_false h, decide_eq_false e]
theorem key_lr (a : Int) (b : Str) : decide ((Sum.inl a : Key) = Sum.inr b) = false := decide_eq_false (fun q => nomatch q)
theorem key_rl (a : Str) (b : Int) : decide ((Sum.inr a : Key) = Sum.inl b) = false := decide_eq_false (fun q => nomatch q)

def mixKind (prog : Program) (w : World) : PySem.KeyKind prog w Key where
  is := keyIs
  hash := keyH w
  inj := fun v a b ha hb => by
    rcases keyIs_shape ha with ⟨i, t, rfl, rfl⟩ | ⟨x, t, rfl, rfl⟩
    · rcases keyIs_shape hb with ⟨j, u, rfl, e⟩ | ⟨y, u, rfl, e⟩
      · injection e with e1 _; rw [e1]
      · exact nomatch e
    · rcases keyIs_shape hb with ⟨j, u, rfl, e⟩ | ⟨y, u, rfl, e⟩
      · exact nomatch e
      · injection e with e1 _; rw [e1]
  byValue := fun k v h => by
    rcases keyIs_shape h with ⟨i, t, rfl, rfl⟩ | ⟨x, t, rfl, rfl⟩ <;> rfl
  pyHash := fun hv h => by
    rcases keyIs_shape hv with ⟨i, t, rfl, rfl⟩ | ⟨x, t, rfl, rfl⟩
    · exact wpAny_pyHash_int h
    · exact wpAny_pyHash_str h
  eqBool := fun hu hv h => by
    rcases keyIs_shape hu with ⟨i, t, rfl, rfl⟩ | ⟨x, t, rfl, rfl⟩
    · rcases keyIs_shape hv with ⟨j, u, rfl, rfl⟩ | ⟨y, u, rfl, rfl⟩
      · rw [key_ll] at h; exact wpAny_eqBool_int h
      · rw [key_lr] at h; exact SeqAt.EqAt.int_str i t y u _ _ _ _ h
    · rcases keyIs_shape hv with ⟨j, u, rfl, rfl⟩ | ⟨y, u, rfl, rfl⟩
      · rw [key_rl] at h; exact SeqAt.EqAt.str_int x t j u _ _ _ _ h
      · rw [key_rr] at h; exact wpAny_eqBool_str h
  «strs» := fun k x t v h => by
    rcases keyIs_shape h with ⟨i, u, rfl, e⟩ | ⟨y, u, rfl, e⟩
    · exact nomatch e
    · injection e with e1 _
      subst e1
      cases v <;> rfl

theorem mixKind_int (prog : Program) (w : World) (i : Int) (t : Tok) : (mixKind prog w).is (.inl i) (.int i t) = true := keyIs_int i t
theorem mixKind_str (prog : Program) (w : World) (x : Str) (t : Tok) : (mixKind prog w).is (.inr x) (.str x t) = true := keyIs_str x t
end L2

namespace L2
open PySem PySem.Spec PyProof.Rows

/-- a value, without the heap -/
inductive V where
  | non | bl (b : Bool) | int (i : Int) | str (x : Str) | byt (b : Array UInt8) | flt (b : UInt64) | ref (a : Addr) | ty (n : String)
  deriving DecidableEq

def RelV : V → Value → Prop
  | .non, u => u = Value.none
  | .bl b, u => u = Value.bool b
  | .int i, u => ∃ t, u = Value.int i t
  | .str x, u => ∃ t, u = Value.str x t
  | .byt b, u => ∃ t, u = Value.bytes b t
  | .flt b, u => ∃ t, u = Value.float b t
  | .ref a, u => u = Value.ref a
  | .ty n, u => u = Value.type n

abbrev Vals : List V → List Value → Prop := Paired RelV
theorem Vals.length {xs : List V} {us : List Value} (r : Vals xs us) : xs.length = us.length := Paired.length r
theorem Vals.get : ∀ {xs : List V} {us : List Value} {i : Nat} {x : V}, Vals xs us → xs[i]? = some x → ∃ u, us[i]? = some u ∧ RelV x u
  | _, _, _, _, .nil, e => by simp at e
  | _, _, 0, _, .cons r _, e => by simp at e; subst e; exact ⟨_, rfl, r⟩
  | _, _, i + 1, x, .cons _ t, e => by
    obtain ⟨u, h1, h2⟩ := Vals.get (i := i) (x := x) t (by simpa using e)
    exact ⟨u, by simpa using h1, h2⟩
theorem Vals.set {x : V} {u : Value} (r : RelV x u) : ∀ {xs : List V} {us : List Value} (i : Nat), Vals xs us → Vals (xs.set i x) (us.set i u)
  | _, _, _, .nil => .nil
  | _, _, 0, .cons _ t => .cons r t
  | _, _, i + 1, .cons q t => .cons q (Vals.set r i t)
theorem Vals.append : ∀ {xs ys : List V} {us ws : List Value}, Vals xs us → Vals ys ws → Vals (xs ++ ys) (us ++ ws)
  | _, _, _, _, .nil, s => s
  | _, _, _, _, .cons r t, s => .cons r (Vals.append t s)
theorem Vals.take : ∀ {xs : List V} {us : List Value} (n : Nat), Vals xs us → Vals (xs.take n) (us.take n)
  | _, _, 0, _ => .nil
  | _, _, _ + 1, .nil => .nil
  | _, _, n + 1, .cons r t => .cons r (Vals.take n t)
theorem Vals.drop : ∀ {xs : List V} {us : List Value} (n : Nat), Vals xs us → Vals (xs.drop n) (us.drop n)
  | _, _, 0, r => r
  | _, _, _ + 1, .nil => .nil
  | _, _, n + 1, .cons _ t => Vals.drop n t
def RelO : Option V → Option Value → Prop
  | some v, some u => RelV v u
  | none, none => True
  | _, _ => False
def KV {κ : Type} : List (κ × V) → List (κ × Value) → Prop := Paired fun (p : κ × V) (q : κ × Value) => p.1 = q.1 ∧ RelV p.2 q.2

/-- a key of a dict (00_mix): an int or a text -/
def kV : Key → V
  | .inl i => .int i
  | .inr x => .str x

/-- what stands at a tracked address -/
inductive HO where
  /-- a list -/
  | lst (xs : List V)
  /-- a tuple (never changes) -/
  | tup (xs : List V)
  /-- a dict whose keys are ints and texts; one whose keys are tuples of ints and texts (the empty one is both) -/
  | dK (kvs : List (Key × V)) | dT (kvs : List (List Key × V))
  /-- a set of ints: its members, its size -/
  | set (S : Int → Bool) (n : Nat)
  /-- an instance of the class at C, its dict at dx, its attributes -/
  | ins (C dx : Addr) (fs : List (Str × V))
  /-- the dict of the instance at x -/
  | own (x : Addr)
  /-- the dict of an exception -/
  | xd (fs : List (Str × V))
  /-- a bound method, f of x -/
  | met (f x : Addr)
  /-- a range object lo, lo + 1, .. below hi -/
  | rng (lo hi : Int)
  /-- a thing that is known to the object (the script; a dict while a loop walks it): read, never written while it is so -/
  | frz (o : Obj) (u : HO)
  /-- a code object's table -/
  | tbl (ps : Array Value)
  /-- any other thing, by what is true of its one object (a def of one's own: SetO a S n := HO.ext fun h => ..) -/
  | ext (φ : Heap → Prop)

abbrev Hp := Addr → Option HO
def upd (H : Hp) (a : Addr) (o : HO) : Hp := fun b => if b = a then some o else H b
theorem upd_same {H : Hp} {a : Addr} {o : HO} : upd H a o a = some o := by unfold upd; rw [if_pos rfl]
theorem upd_ne {H : Hp} {a b : Addr} {o : HO} (h : b ≠ a) : upd H a o b = H b := by unfold upd; rw [if_neg h]
/-- two objects of different content stand apart -/
theorem ne_of {H : Hp} {a b : Addr} {o u : HO} (h : H a = some o) (h' : H b = some u) (d : o ≠ u) : a ≠ b := by
  intro e; subst e; rw [h] at h'; exact d (Option.some.inj h')
theorem ne_of_none {H : Hp} {a b : Addr} {o : HO} (h : H a = some o) (h' : H b = none) : a ≠ b := by
  intro e; subst e; rw [h] at h'; cases h'

section
variable (P : Program) (w : World)
def ObjOk (H : Hp) (h : Heap) (a : Addr) : HO → Prop
  | .lst xs => xs.length ≤ sizeLine ∧ ∃ (its : List Value) (n : Nat), Vals xs its ∧ h.get? a = some { cls := .type "list", data := .seq its.toArray n }
  | .tup xs => xs.length ≤ sizeLine ∧ ∃ its : List Value, Vals xs its ∧ IsTup h a its.toArray
  | .dK kvs => kvs.length ≤ sizeLine ∧ (a == sysModules) = false ∧ ∃ vs, KV kvs vs ∧ h.DictOf (mixKind P w) a vs
  | .dT kvs => kvs.length ≤ sizeLine ∧ (a == sysModules) = false ∧ ∃ xs : List (List Key × Addr × Value),
      Paired (fun (p : List Key × V) (q : List Key × Addr × Value) => p.1 = q.1 ∧ H q.2.1 = some (.tup (p.1.map kV)) ∧ RelV p.2 q.2.2) kvs xs ∧
      ∃ o es ep, h.get? a = some o ∧ o.ExactDict ∧ o.data = .dict es ep ∧ es.toList = xs.map (entryOfKey (tupleKind (mixKind P w))) ∧ (xs.map (·.1)).Nodup
  | .set S n => h.SetOf (intKind P w) a S n
  | .ins C dx fs => H dx = some (.own a) ∧ fs.length ≤ 1000 ∧ dx ≠ a ∧ h.get? a = some (PySem.W.instObj C dx) ∧
      ∃ mA, h.Ns1 dx mA ∧ (∀ f, RelO (fs.lookup f) (mA f)) ∧ PySem.Within mA (fs.map (·.1))
  | .own _ => ∃ o, h.get? a = some o
  | .xd fs => ∃ mA, h.Ns1 a mA ∧ ∀ f, RelO (fs.lookup f) (mA f)
  | .rng lo hi => ∃ t u v, h.get? a = some { cls := .type "range", data := .fields #[.int lo t, .int hi u, .int 1 v] }
  | .frz o u => h.get? a = some o ∧ ObjOk H h a u
  | .tbl ps => h.get? a = some { cls := .none, data := .fields ps }
  | .met f x => h.get? a = some (PySem.W.methodObj (.ref f) (.ref x))
  | .ext φ => φ h ∧ (∃ o, h.get? a = some o) ∧ ∀ h1 h2 : Heap, φ h1 → (∀ o, h1.get? a = some o → h2.get? a = some o) → φ h2
/-- the abstract heap is held -/
def HOk (H : Hp) (h : Heap) : Prop := ∀ a o, H a = some o → ObjOk P w H h a o
end

section
variable {P : Program} {w : World} {H H' : Hp} {h h' : Heap} {a : Addr} {o : HO}
theorem ObjOk.lt (x : ObjOk P w H h a o) : a < h.objs.size := by
  cases o with
  | lst xs => obtain ⟨_, _, _, _, e⟩ := x; exact Heap.lt_size e
  | tup xs => obtain ⟨_, _, _, p⟩ := x; exact p.lt
  | dK kvs => obtain ⟨_, _, _, _, o, _, _, e, _⟩ := x; exact Heap.lt_size e
  | dT kvs => obtain ⟨_, _, _, _, o, _, _, e, _⟩ := x; exact Heap.lt_size e
  | set S n => obtain ⟨o, _, _, _, e, _⟩ := x; exact Heap.lt_size e
  | ins C dx fs => obtain ⟨_, _, _, e, _⟩ := x; exact Heap.lt_size e
  | own y => obtain ⟨_, e⟩ := x; exact Heap.lt_size e
  | xd fs => obtain ⟨_, ⟨_, _, _, e, _⟩, _⟩ := x; exact Heap.lt_size e
  | rng lo hi => obtain ⟨_, _, _, e⟩ := x; exact Heap.lt_size e
  | frz ob u => obtain ⟨e, _⟩ := x; exact Heap.lt_size e
  | tbl ps => exact Heap.lt_size (show h.get? a = some _ from x)
  | met f y => exact Heap.lt_size (show h.get? a = some _ from x)
  | ext φ => obtain ⟨_, ⟨_, e⟩, _⟩ := x; exact Heap.lt_size e
theorem Paired.mapP {α β : Type} {F G : α → β → Prop} : ∀ {l₁ : List α} {l₂ : List β}, Paired F l₁ l₂ → (∀ a b, F a b → G a b) → Paired G l₁ l₂
  | _, _, .nil, _ => .nil
  | _, _, .cons r t, f => .cons (f _ _ r) (Paired.mapP t f)
/-- what an object's description leans on: its own object, its own dict, the tuples -/
theorem ObjOk.stay (x : ObjOk P w H h a o) (k : ∀ b u, (b = a ∨ H b = some (.own a)) → h.get? b = some u → h'.get? b = some u)
    (ho : ∀ b, H b = some (.own a) → H' b = some (.own a)) (ht : ∀ b xs, H b = some (.tup xs) → H' b = some (.tup xs)) : ObjOk P w H' h' a o := by
  induction o with
  | lst xs => obtain ⟨z, its, n, r, e⟩ := x; exact ⟨z, its, n, r, k _ _ (.inl rfl) e⟩
  | tup xs => obtain ⟨z, its, r, ob, e, c⟩ := x; exact ⟨z, its, r, ob, k _ _ (.inl rfl) e, c⟩
  | dK kvs => obtain ⟨z, y, vs, r, ob, es, ep, e, c⟩ := x; exact ⟨z, y, vs, r, ob, es, ep, k _ _ (.inl rfl) e, c⟩
  | dT kvs =>
    obtain ⟨z, y, xs, r, ob, es, ep, e, c⟩ := x
    exact ⟨z, y, xs, Paired.mapP r fun p q z => ⟨z.1, ht _ _ z.2.1, z.2.2⟩, ob, es, ep, k _ _ (.inl rfl) e, c⟩
  | set S n => obtain ⟨ob, es, ep, t, e, c⟩ := x; exact ⟨ob, es, ep, t, k _ _ (.inl rfl) e, c⟩
  | ins C dx fs =>
    obtain ⟨d, z, ne, e, mA, ⟨od, es, ep, e2, c⟩, r⟩ := x
    exact ⟨ho _ d, z, ne, k _ _ (.inl rfl) e, mA, ⟨od, es, ep, k _ _ (.inr d) e2, c⟩, r⟩
  | own y => obtain ⟨ob, e⟩ := x; exact ⟨ob, k _ _ (.inl rfl) e⟩
  | xd fs => obtain ⟨mA, ⟨od, es, ep, e, c⟩, r⟩ := x; exact ⟨mA, ⟨od, es, ep, k _ _ (.inl rfl) e, c⟩, r⟩
  | rng lo hi => obtain ⟨t, u, v, e⟩ := x; exact ⟨t, u, v, k _ _ (.inl rfl) e⟩
  | frz ob u ih => obtain ⟨e, q⟩ := x; exact ⟨k _ _ (.inl rfl) e, ih q⟩
  | tbl ps =>
    have e : h.get? a = some { cls := .none, data := .fields ps } := x
    show h'.get? a = some { cls := .none, data := .fields ps }
    exact k a _ (.inl rfl) e
  | met f y =>
    have e : h.get? a = some (PySem.W.methodObj (.ref f) (.ref y)) := x
    show h'.get? a = some (PySem.W.methodObj (.ref f) (.ref y))
    exact k a _ (.inl rfl) e
  | ext φ => obtain ⟨p, ⟨o, e⟩, st⟩ := x; exact ⟨st _ _ p fun o q => k _ _ (.inl rfl) q, ⟨o, k _ _ (.inl rfl) e⟩, st⟩
theorem HOk.lt (x : HOk P w H h) (e : H a = some o) : a < h.objs.size := (x a o e).lt
theorem HOk.fresh (x : HOk P w H h) (e : h.objs.size ≤ a) : H a = none := by
  cases q : H a with
  | none => rfl
  | some u => exact absurd (Nat.lt_of_lt_of_le (x.lt q) e) (Nat.lt_irrefl _)
/-- every object of the heap is kept -/
theorem HOk.kept (x : HOk P w H h) (k : ∀ b u, h.get? b = some u → h'.get? b = some u) : HOk P w H h' := fun a o e =>
  (x a o e).stay (fun b u _ q => k b u q) (fun _ q => q) fun _ _ q => q
/-- a new object is laid and tracked -/
theorem HOk.laid (x : HOk P w H h) (k : ∀ b u, h.get? b = some u → h'.get? b = some u) (hp : h.objs.size ≤ a) (new : ObjOk P w (upd H a o) h' a o) : HOk P w (upd H a o) h' := fun b u e => by
  have hn := x.fresh hp
  by_cases hb : b = a
  · subst hb; rw [upd_same] at e; cases e; exact new
  · rw [upd_ne hb] at e
    exact (x b u e).stay (fun c v _ q => k c v q) (fun c q => by rw [upd_ne (ne_of_none q hn)]; exact q) fun c xs q => by rw [upd_ne (ne_of_none q hn)]; exact q
end

/-- what may be read as u: it is u, or a known u -/
def Rd (H : Hp) (a : Addr) (u : HO) : Prop := H a = some u ∨ ∃ o, H a = some (.frz o u)
theorem Rd.of {H : Hp} {a : Addr} {u : HO} (h : H a = some u) : Rd H a u := .inl h
theorem Rd.ok {P : Program} {w : World} {H : Hp} {h : Heap} {a : Addr} {u : HO} (r : Rd H a u) (x : HOk P w H h) : ObjOk P w H h a u := by
  rcases r with r | ⟨o, r⟩
  · exact x a u r
  · obtain ⟨_, q⟩ := x a _ r
    exact q
/-- what may be written -/
def Mut : Option HO → Prop
  | some (.lst _) => True
  | some (.dK _) => True
  | some (.dT _) => True
  | some (.set _ _) => True
  | some (.ins _ _ _) => True
  | some (.ext _) => True
  | _ => False
section
variable {P : Program} {w : World} {H : Hp} {h h' : Heap} {x e : Addr} {o' : HO}
/-- the object at e is changed: x itself, or the dict of the instance x -/
theorem HOk.write (ok : HOk P w H h) (mu : Mut (H x)) (he : e = x ∨ H e = some (.own x)) (k : ∀ b u, b ≠ e → h.get? b = some u → h'.get? b = some u) (heo : ∃ u, h'.get? e = some u)
    (new : ObjOk P w (upd H x o') h' x o') : HOk P w (upd H x o') h' := fun b u q => by
  have nown : ∀ c y, H c = some (.own y) → c ≠ x := fun c y r z => by subst z; rw [r] at mu; exact mu
  have ntup : ∀ c xs, H c = some (.tup xs) → c ≠ x := fun c xs r z => by subst z; rw [r] at mu; exact mu
  by_cases hb : b = x
  · subst hb; rw [upd_same] at q; cases q; exact new
  · rw [upd_ne hb] at q
    by_cases hbe : b = e
    · have q' : H b = some (.own x) := by
        rcases he with z | z
        · exact absurd (hbe.trans z) hb
        · rw [hbe]; exact z
      rw [q] at q'; cases q'
      obtain ⟨v, hv⟩ := heo
      exact ⟨v, by rw [hbe]; exact hv⟩
    · refine (ok b u q).stay (fun c v hc r => k c v ?_ r) (fun c r => by rw [upd_ne (nown c b r)]; exact r) fun c xs r => by rw [upd_ne (ntup c xs r)]; exact r
      rcases hc with rfl | hc
      · exact hbe
      · rintro rfl
        rcases he with z | z
        · exact nown c b hc z
        · rw [hc] at z; cases z; exact hb rfl
end

/-! ### kept unless tracked; of the frames at fs (the callers') the slots may change (an exception that passes writes there); of the records at ex (iterators) nothing is said -/
structure Un (fs ex : List Addr) (H H' : Hp) (h h' : Heap) : Prop where
  keep : ∀ b o, h.get? b = some o → H b = none → b ∉ fs → b ∉ ex → h'.get? b = some o
  slot : ∀ b o, h.get? b = some o → H b = none → b ∈ fs → b ∉ ex → ∃ sl, h'.get? b = some { o with slots := sl }
  free : ∀ b o, h.get? b = some o → H b = none → b ∉ ex → H' b = none
  there : ∀ b o, h.get? b = some o → b ∉ ex → ∃ o', h'.get? b = some o'
  tups : ∀ b xs, H b = some (.tup xs) → H' b = some (.tup xs)
  frzs : ∀ b o u, H b = some (.frz o u) → H' b = some (.frz o u)
  tbls : ∀ b ps, H b = some (.tbl ps) → ∃ more, H' b = some (.tbl (ps ++ more))
section
variable {fs fs' ex ex' : List Addr} {H H1 H2 : Hp} {h h1 h2 h' : Heap} {a x e : Addr} {o : HO}
theorem Un.any (u : Un fs ex H H1 h h1) {b : Addr} {ob : Obj} (q : h.get? b = some ob) (n : H b = none) (hx : b ∉ ex) : ∃ sl, h1.get? b = some { ob with slots := sl } := by
  by_cases hb : b ∈ fs
  · exact u.slot b ob q n hb hx
  · exact ⟨ob.slots, u.keep b ob q n hb hx⟩
theorem Un.trans (a : Un fs ex H H1 h h1) (b : Un fs ex H1 H2 h1 h2) : Un fs ex H H2 h h2 where
  keep := fun c ob q n hc hx => b.keep c ob (a.keep c ob q n hc hx) (a.free c ob q n hx) hc hx
  slot := fun c ob q n hc hx => by
    obtain ⟨sl, e1⟩ := a.slot c ob q n hc hx
    obtain ⟨sl', e2⟩ := b.slot c _ e1 (a.free c ob q n hx) hc hx
    exact ⟨sl', e2⟩
  free := fun c ob q n hx => by
    obtain ⟨o', e1⟩ := a.there c ob q hx
    exact b.free c o' e1 (a.free c ob q n hx) hx
  there := fun c ob q hx => by
    obtain ⟨o', e1⟩ := a.there c ob q hx
    exact b.there c o' e1 hx
  tups := fun c xs q => b.tups c xs (a.tups c xs q)
  frzs := fun c ob xs q => b.frzs c ob xs (a.frzs c ob xs q)
  tbls := fun c ps q => by
    obtain ⟨m1, e1⟩ := a.tbls c ps q
    obtain ⟨m2, e2⟩ := b.tbls c _ e1
    exact ⟨m1 ++ m2, by rw [e2, Array.append_assoc]⟩
theorem Un.kept (k : ∀ b u, h.get? b = some u → h'.get? b = some u) : Un fs ex H H h h' :=
  ⟨fun b ob q _ _ _ => k b ob q, fun b ob q _ _ _ => ⟨ob.slots, k b ob q⟩, fun _ _ _ n _ => n, fun b ob q _ => ⟨ob, k b ob q⟩, fun _ _ q => q, fun _ _ _ q => q, fun _ ps q => ⟨#[], by rw [q]; simp⟩⟩
theorem Un.refl : Un fs ex H H h h := Un.kept fun _ _ q => q
theorem Un.laid (k : ∀ b u, h.get? b = some u → h'.get? b = some u) (hp : h.objs.size ≤ a) (hn : H a = none) : Un fs ex H (upd H a o) h h' where
  keep := fun b u q _ _ _ => k b u q
  slot := fun b u q _ _ _ => ⟨u.slots, k b u q⟩
  free := fun b u q n _ => by rw [upd_ne (Nat.ne_of_lt (Nat.lt_of_lt_of_le (Heap.lt_size q) hp))]; exact n
  there := fun b u q _ => ⟨u, k b u q⟩
  tups := fun b xs q => by rw [upd_ne (ne_of_none q hn)]; exact q
  frzs := fun b u xs q => by rw [upd_ne (ne_of_none q hn)]; exact q
  tbls := fun b ps q => ⟨#[], by rw [upd_ne (ne_of_none q hn), q]; simp⟩
theorem Un.write (mu : Mut (H x)) (he : e = x ∨ H e = some (.own x)) (k : ∀ b u, b ≠ e → h.get? b = some u → h'.get? b = some u) (heo : ∃ u, h'.get? e = some u) : Un fs ex H (upd H x o) h h' := by
  have hx : ∀ b, H b = none → b ≠ x := fun b n z => by subst z; rw [n] at mu; exact mu
  have hb : ∀ b, H b = none → b ≠ e := fun b n z => by
    subst z
    rcases he with r | r
    · exact hx b n r
    · rw [n] at r; cases r
  have hm : ∀ b u, H b = some u → ¬ Mut (some u) → b ≠ x := fun b u q nm z => by subst z; rw [q] at mu; exact nm mu
  refine ⟨fun b u q n _ _ => k b u (hb b n) q, fun b u q n _ _ => ⟨u.slots, k b u (hb b n) q⟩, fun b u q n _ => by rw [upd_ne (hx b n)]; exact n, fun b u q _ => ?_,
    fun b xs q => by rw [upd_ne (hm b _ q fun z => z)]; exact q, fun b u xs q => by rw [upd_ne (hm b _ q fun z => z)]; exact q, fun b ps q => ⟨#[], by rw [upd_ne (hm b _ q fun z => z), q]; simp⟩⟩
  by_cases hbe : b = e
  · subst hbe; exact heo
  · exact ⟨u, k b u hbe q⟩
end

/-! ### the heap without what is tracked -/
def trk (h : Heap) (H : Hp) : List Addr := (List.range h.objs.size).filter fun a => (H a).isSome
def hidT (h : Heap) (H : Hp) : Heap := PySem.W.hideAll h (trk h H)
theorem hidT_size (h : Heap) (H : Hp) : (hidT h H).objs.size = h.objs.size := PySem.W.hideAll_size _ _
theorem hidT_get {h : Heap} {H : Hp} {b : Addr} {o : Obj} (e : h.get? b = some o) (n : H b = none) : (hidT h H).get? b = some o :=
  PySem.W.hideAll_get _ e fun hm => by
    have q : (H b).isSome = true := (List.mem_filter.mp hm).2
    rw [n] at q; simp at q
theorem of_hidT {h : Heap} {H : Hp} {b : Addr} {o : Obj} (e : (hidT h H).get? b = some o) : h.get? b = some o ∧ H b = none := by
  have e' : h.get? b = some o := PySem.W.of_hideAll (trk h H) e
  refine ⟨e', ?_⟩
  cases q : H b with
  | none => rfl
  | some x =>
    have hm : b ∈ trk h H := List.mem_filter.mpr ⟨List.mem_range.mpr (Heap.lt_size e'), by simp [q]⟩
    have z : (hidT h H).get? b = none := PySem.W.hideAll_none (trk h H) hm
    rw [z] at e; cases e

/-! ### OpenK's ledger, filled with every new object but one -/
def allNews (g h : Heap) (L : Addr) : List (Addr × Obj) := (List.range h.objs.size).filterMap fun a => if a = L ∨ (g.get? a).isSome = true then none else (h.get? a).map fun o => (a, o)
def rest (g h : Heap) (L d : Addr) : List (Addr × Obj) := (allNews g h L).filter fun p => decide (p.1 ≠ d)
end L2

namespace L2
open PySem PySem.Spec PyProof.Rows

/-- the module's facts, over the base: the heap at the law's entry without what is tracked there -/
structure Mod (K : PySem.W.Frag) (mg : Str → Option Value) (base : Heap) : Prop where
  kin : K.In base
  glob : base.Ns mainGlobals mg
  blt : ∃ mb, base.Ns builtinsNs mb ∧ ∀ x : Str, x ≠ "__name__" → mb x = bootBuiltins x
  nolimit : base.NoLimit

/-- the context: a def's body (or a comprehension's block) running. base: fixed through the whole law; s₀, H₀: the entry; outer: the frames whose slots others may change (a def's callers); stack: all frames that run;
   ex: iterators that were made ahead of the entry and are walked here (a comprehension's); fn: the names whose cells were made at the entry (a def: all; a comprehension's block: its own); calm: not within an except suite; pn: pins that every state bears; xe: what is wanted of an exception that leaves the code -/
structure Cx where
  prog : Program
  w : World
  K : PySem.W.Frag
  mg : Str → Option Value
  base : Heap
  A : Around
  N : List Str
  s₀ : Shared
  H₀ : Hp
  env : Env
  outer : List Env
  stack : List Env
  ex : List Addr
  fn : Str → Bool
  calm : Bool
  pn : List (Addr × Obj)
  xe : Value → Shared → Prop
/-- the callers' frames -/
def frs (l : List Env) : List Addr := l.filterMap (·.frame)
abbrev Cx.fs (X : Cx) : List Addr := frs X.outer

def Vis (sc : Scope) (x : Str) : Prop := sc.names.lookup x = some .local ∨ sc.names.lookup x = some .cell ∨ sc.names.lookup x = some .free
def Loc (sc : Scope) (x : Str) : Prop := sc.names.lookup x = some .local ∨ sc.names.lookup x = some .cell
def Look (env : Env) (h : Heap) (m : Str → Option Value) (x : Str) (u : Value) : Prop :=
  (env.kindOf x = some .local ∧ m x = some u) ∨ ((env.kindOf x = some .cell ∨ env.kindOf x = some .free) ∧ ∃ c, env.cells.lookup x = some c ∧ h.IsCell c (some u))

structure Cx.Ok (X : Cx) : Prop where
  mod : Mod X.K X.mg X.base
  kind : X.env.scope.kind = .function
  glob : X.env.globals = mainGlobals
  blt : X.env.builtins = builtinsNs
  above : X.s₀.heap.objs.size ≤ X.env.locals
  inj : ∀ x y c, X.env.cells.lookup x = some c → X.env.cells.lookup y = some c → x = y
  has : ∀ x, (X.env.kindOf x = some .cell ∨ X.env.kindOf x = some .free) → ∃ c, X.env.cells.lookup x = some c
  cab : ∀ x c, X.fn x = true → X.env.cells.lookup x = some c → X.s₀.heap.objs.size ≤ c
  hd : X.calm = true → X.A.handled = none
  frames : X.A.frames = some X.stack
  stk : X.stack = X.outer ∨ (X.stack = X.env :: X.outer ∧ X.env.frame = some X.env.locals)
  exf : ∀ b ∈ X.ex, b ≠ X.env.locals ∧ ∀ x c, X.env.cells.lookup x = some c → c ≠ b
  bs : ∀ b o, X.base.get? b = some o → X.s₀.heap.get? b = some o ∧ X.H₀ b = none
  bsz : X.base.objs.size ≤ X.s₀.heap.objs.size
  noex : ∀ b o, X.base.get? b = some o → b ∉ X.ex
  exfs : ∀ b ∈ X.ex, b ∉ X.fs
  funs : X.s₀.heap.FunFrames X.base X.outer
  frf : ∀ b ∈ X.fs, X.H₀ b = none

structure Inv (X : Cx) (pins : List (Addr × Obj)) (σ : List (Option V)) (H : Hp) (s : Shared) : Prop where
  ok : X.Ok
  os : s.os = X.s₀.os
  bare : AllBare s.gens
  base : Un X.fs X.ex X.H₀ H X.s₀.heap s.heap
  loc : ∃ m, s.heap.Ns X.env.locals m ∧ ∀ (i : Nat) (x : Str) (v : V), X.N[i]? = some x → σ[i]? = some (some v) → Vis X.env.scope x → ∃ u, RelV v u ∧ Look X.env s.heap m x u
  cell : ∀ x c, X.env.cells.lookup x = some c → ∃ v, s.heap.IsCell c v
  free : H X.env.locals = none
  freeC : ∀ x c, X.env.cells.lookup x = some c → H c = none
  pin : ∀ p ∈ X.pn ++ pins, s.heap.get? p.1 = some p.2 ∧ H p.1 = none ∧ p.1 ≠ X.env.locals ∧ p.1 ∉ X.fs ∧ ∀ v, p.2.data ≠ .cell v
  hok : HOk X.prog X.w H s.heap
  len : σ.length = X.N.length

section
variable {X : Cx} {pins : List (Addr × Obj)} {σ : List (Option V)} {H H' : Hp} {s : Shared} {h' : Heap}

theorem Cx.Ok.nofr (ok : X.Ok) {b : Addr} {o : Obj} (e : X.base.get? b = some o) : b ∉ X.fs := fun hb => by
  have := (ok.funs.mem hb).1
  rw [e] at this; cases this
theorem Inv.bs (I : Inv X pins σ H s) : ∀ b o, X.base.get? b = some o → s.heap.get? b = some o ∧ H b = none := fun b o e =>
  ⟨I.base.keep b o (I.ok.bs b o e).1 (I.ok.bs b o e).2 (I.ok.nofr e) (I.ok.noex b o e), I.base.free b o (I.ok.bs b o e).1 (I.ok.bs b o e).2 (I.ok.noex b o e)⟩
theorem Inv.bk (I : Inv X pins σ H s) : ∀ b o, X.base.get? b = some o → s.heap.get? b = some o := fun b o e => (I.bs b o e).1
theorem Inv.mod (I : Inv X pins σ H s) : Mod X.K X.mg X.base := I.ok.mod
theorem Inv.kIn (I : Inv X pins σ H s) : X.K.In s.heap := I.ok.mod.kin.keeps I.bk
theorem Inv.lt (I : Inv X pins σ H s) : X.env.locals < s.heap.objs.size := let ⟨_, hn, _⟩ := I.loc; hn.lt
theorem Inv.sz (I : Inv X pins σ H s) : X.s₀.heap.objs.size ≤ s.heap.objs.size := Nat.le_trans I.ok.above (Nat.le_of_lt I.lt)
theorem Inv.nofs (I : Inv X pins σ H s) {a : Addr} (h : s.heap.objs.size ≤ a) : a ∉ X.fs := fun hb => by
  obtain ⟨_, o, ho, _⟩ := I.ok.funs.mem hb
  exact absurd (Nat.lt_of_lt_of_le (Heap.lt_size ho) (Nat.le_trans I.sz h)) (Nat.lt_irrefl _)
theorem Inv.cne (I : Inv X pins σ H s) : ∀ x c, X.env.cells.lookup x = some c → c ≠ X.env.locals := fun x c e z => by
  obtain ⟨v, o, ho, hd⟩ := I.cell x c e
  obtain ⟨m, ⟨o', es, ep, ho', hd', _⟩, _⟩ := I.loc
  rw [z, ho'] at ho; cases ho; rw [hd'] at hd; cases hd
theorem Inv.funs (I : Inv X pins σ H s) : s.heap.FunFrames X.base X.outer := by
  have all : ∀ (l : List Env), (∀ b ∈ frs l, b ∈ X.fs) → X.s₀.heap.FunFrames X.base l → s.heap.FunFrames X.base l := by
    intro l
    induction l with
    | nil => intro _ _; trivial
    | cons env r ih =>
      intro hs hl
      obtain ⟨hk, ⟨L, o, hf, hn, ho, hd⟩, hr⟩ := hl
      have hL : L ∈ X.fs := hs L (by unfold frs; rw [List.filterMap_cons, hf]; exact List.mem_cons_self)
      obtain ⟨sl, e⟩ := I.base.slot L o ho (I.ok.frf L hL) hL fun z => I.ok.exfs L z hL
      exact ⟨hk, ⟨L, _, hf, hn, e, hd⟩, ih (fun b hb => hs b (by unfold frs; rw [List.filterMap_cons, hf]; exact List.mem_cons_of_mem _ hb)) hr⟩
  exact all X.outer (fun _ hb => hb) I.ok.funs

/-- the frames that run, for a call -/
theorem Inv.stack (I : Inv X pins σ H s) : s.heap.FunFrames X.base X.stack := by
  rcases I.ok.stk with e | ⟨e, hf⟩
  · rw [e]; exact I.funs
  · rw [e]
    obtain ⟨m, hn, _⟩ := I.loc
    refine .cons (by rw [I.ok.kind]; decide) hf hn ?_ I.funs
    exact Heap.get?_none_of_le (Nat.le_trans I.ok.bsz I.ok.above)
theorem Inv.stkSub (I : Inv X pins σ H s) : ∀ b ∈ frs X.stack, b ∈ X.env.locals :: X.fs := fun b hb => by
  rcases I.ok.stk with e | ⟨e, hf⟩
  · rw [e] at hb; exact List.mem_cons_of_mem _ hb
  · rw [e] at hb
    unfold frs at hb
    rw [List.filterMap_cons, hf] at hb
    exact hb
theorem Inv.stkFree (I : Inv X pins σ H s) : ∀ b ∈ frs X.stack, H b = none := fun b hb => by
  rcases List.mem_cons.mp (I.stkSub b hb) with e | hb
  · rw [e]; exact I.free
  · obtain ⟨_, o, ho, _⟩ := I.ok.funs.mem hb
    exact I.base.free b o ho (I.ok.frf b hb) fun z => I.ok.exfs b z hb

/-- THE STEP: the untracked objects but the frame and the records at ch are kept (the callers' frames up to slots), the frame's map is kept, the new abstract heap is held -/
theorem Inv.step {g' : Array GenState} {t' : Nat} {d' : Drawn} {ch : List Addr} (I : Inv X pins σ H s)
    (hch : ∀ b ∈ ch, (b ∈ X.ex ∨ X.s₀.heap.objs.size ≤ b) ∧ b ≠ X.env.locals ∧ (∀ x c, X.env.cells.lookup x = some c → c ≠ b) ∧ ∀ p ∈ X.pn ++ pins, p.1 ≠ b)
    (keep : ∀ b o, b ≠ X.env.locals → b ∉ X.fs → b ∉ ch → s.heap.get? b = some o → H b = none → h'.get? b = some o)
    (slot : ∀ b o, b ≠ X.env.locals → b ∈ X.fs → b ∉ ch → s.heap.get? b = some o → H b = none → ∃ sl, h'.get? b = some { o with slots := sl }) (free : ∀ b o, b ∉ ch → s.heap.get? b = some o → H b = none → H' b = none)
    (there : ∀ b o, b ∉ ch → s.heap.get? b = some o → ∃ o', h'.get? b = some o')
    (tups : ∀ b xs, H b = some (.tup xs) → H' b = some (.tup xs)) (frzs : ∀ b o u, H b = some (.frz o u) → H' b = some (.frz o u)) (tbls : ∀ b ps, H b = some (.tbl ps) → ∃ more, H' b = some (.tbl (ps ++ more)))
    (ns : ∀ m, s.heap.Ns X.env.locals m → h'.Ns X.env.locals m) (hok : HOk X.prog X.w H' h') (hg : AllBare g') :
    Inv X pins σ H' { s with heap := h', gens := g', drawn := d', toks := t' } := by
  have neL : ∀ b o, X.s₀.heap.get? b = some o → b ≠ X.env.locals := fun b o e => Nat.ne_of_lt (Nat.lt_of_lt_of_le (Heap.lt_size e) I.ok.above)
  have neC : ∀ b o, X.s₀.heap.get? b = some o → b ∉ X.ex → b ∉ ch := fun b o e hx hb => by
    rcases (hch b hb).1 with z | z
    · exact hx z
    · exact absurd (Nat.lt_of_lt_of_le (Heap.lt_size e) z) (Nat.lt_irrefl _)
  have cellK : ∀ x c, X.env.cells.lookup x = some c → ∀ v, s.heap.IsCell c v → h'.IsCell c v := fun x c e v ⟨o, ho, hd⟩ => by
    have nch : c ∉ ch := fun z => (hch c z).2.2.1 x c e rfl
    by_cases hc : c ∈ X.fs
    · obtain ⟨sl, q⟩ := slot c o (I.cne x c e) hc nch ho (I.freeC x c e)
      exact ⟨_, q, hd⟩
    · exact ⟨o, keep c o (I.cne x c e) hc nch ho (I.freeC x c e), hd⟩
  refine ⟨I.ok, I.os, hg, ⟨fun b o e n hb hx => ?_, fun b o e n hb hx => ?_, fun b o e n hx => ?_, fun b o e hx => ?_, fun b xs e => tups b xs (I.base.tups b xs e), fun b o xs e => frzs b o xs (I.base.frzs b o xs e), fun b ps e => ?_⟩, ?_, fun x c e => ?_, ?_, fun x c e => ?_, fun p hp => ?_, hok, I.len⟩
  · exact keep b o (neL b o e) hb (neC b o e hx) (I.base.keep b o e n hb hx) (I.base.free b o e n hx)
  · obtain ⟨sl, e1⟩ := I.base.slot b o e n hb hx
    obtain ⟨sl', e2⟩ := slot b _ (neL b o e) hb (neC b o e hx) e1 (I.base.free b o e n hx)
    exact ⟨sl', e2⟩
  · obtain ⟨o', e1⟩ := I.base.there b o e hx
    exact free b o' (neC b o e hx) e1 (I.base.free b o e n hx)
  · obtain ⟨o', e1⟩ := I.base.there b o e hx
    exact there b o' (neC b o e hx) e1
  · obtain ⟨m1, e1⟩ := I.base.tbls b ps e
    obtain ⟨m2, e2⟩ := tbls b _ e1
    exact ⟨m1 ++ m2, by rw [e2, Array.append_assoc]⟩
  · obtain ⟨m, hn, hl⟩ := I.loc
    refine ⟨m, ns m hn, fun i x v e1 e2 e3 => ?_⟩
    obtain ⟨u, r, l⟩ := hl i x v e1 e2 e3
    refine ⟨u, r, ?_⟩
    rcases l with l | ⟨k, c, e, z⟩
    · exact .inl l
    · exact .inr ⟨k, c, e, cellK x c e _ z⟩
  · obtain ⟨v, z⟩ := I.cell x c e
    exact ⟨v, cellK x c e v z⟩
  · obtain ⟨m, ⟨o, _, _, ho, _⟩, _⟩ := I.loc
    exact free _ o (fun z => (hch _ z).2.1 rfl) ho I.free
  · obtain ⟨v, o, ho, hd⟩ := I.cell x c e
    exact free c o (fun z => (hch c z).2.2.1 x c e rfl) ho (I.freeC x c e)
  · obtain ⟨e, n, ne, nf, d⟩ := I.pin p hp
    have nch : p.1 ∉ ch := fun z => (hch p.1 z).2.2.2 p hp rfl
    exact ⟨keep p.1 p.2 ne nf nch e n, free p.1 p.2 nch e n, ne, nf, d⟩
/-- .. where the frame's own object is kept too -/
theorem Inv.un {t' : Nat} (I : Inv X pins σ H s) (u : Un X.fs [] H H' s.heap h') (hok : HOk X.prog X.w H' h') : Inv X pins σ H' { s with heap := h', toks := t' } := by
  obtain ⟨m, ⟨o, es, ep, ho, r⟩, _⟩ := id I.loc
  obtain ⟨sl, hL⟩ := u.any ho I.free (by simp)
  exact I.step (g' := s.gens) (d' := s.drawn) (ch := []) (fun _ z => nomatch z) (fun b o _ hb _ e n => u.keep b o e n hb (by simp)) (fun b o _ hb _ e n => u.slot b o e n hb (by simp)) (fun b o _ e n => u.free b o e n (by simp)) (fun b o _ e => u.there b o e (by simp)) u.tups u.frzs u.tbls (fun m' hm => by
    obtain ⟨o', es', ep', ho', r'⟩ := hm
    rw [ho] at ho'; cases ho'
    exact ⟨_, es', ep', hL, r'⟩) hok I.bare
/-- behind a call (or a comprehension's block): the slots of this frame may have changed too, the records at ch may have turned -/
theorem Inv.call {g' : Array GenState} {t' : Nat} {d' : Drawn} {ch : List Addr} (I : Inv X pins σ H s) (u : Un (frs X.stack) ch H H' s.heap h') (hok : HOk X.prog X.w H' h') (hg : AllBare g')
    (hch : ∀ b ∈ ch, (b ∈ X.ex ∨ X.s₀.heap.objs.size ≤ b) ∧ b ≠ X.env.locals ∧ (∀ x c, X.env.cells.lookup x = some c → c ≠ b) ∧ ∀ p ∈ X.pn ++ pins, p.1 ≠ b) :
    Inv X pins σ H' { s with heap := h', gens := g', drawn := d', toks := t' } := by
  obtain ⟨m, ⟨o, es, ep, ho, r⟩, _⟩ := id I.loc
  obtain ⟨sl, hL⟩ := u.any ho I.free fun z => (hch _ z).2.1 rfl
  exact I.step (ch := ch) hch (fun b o hL hb hc e n => u.keep b o e n (fun z => (List.mem_cons.mp (I.stkSub b z)).elim hL hb) hc) (fun b o _ _ hc e n => u.any e n hc) (fun b o hc e n => u.free b o e n hc) (fun b o hc e => u.there b o e hc) u.tups u.frzs u.tbls (fun m' hm => by
    obtain ⟨o', es', ep', ho', r'⟩ := hm
    rw [ho] at ho'; cases ho'
    exact ⟨_, es', ep', hL, r'⟩) hok hg
/-- an untracked record of ours (an iterator) has turned -/
theorem Inv.turned {t' : Nat} {it : Addr} (I : Inv X pins σ H s) (k : ∀ b o, b ≠ it → s.heap.get? b = some o → h'.get? b = some o) (hn : H it = none) (hL : it ≠ X.env.locals)
    (h1 : it ∈ X.ex ∨ X.s₀.heap.objs.size ≤ it) (h2 : ∀ x c, X.env.cells.lookup x = some c → c ≠ it) (h3 : ∀ p ∈ X.pn ++ pins, p.1 ≠ it) : Inv X pins σ H { s with heap := h', toks := t' } := by
  have nit : ∀ b u, H b = some u → b ≠ it := fun b u e z => by rw [z, hn] at e; cases e
  refine I.step (g' := s.gens) (d' := s.drawn) (ch := [it]) (fun b hb => ?_) (fun b o _ _ hc e _ => k b o (fun z => hc (by simp [z])) e) (fun b o _ _ hc e _ => ⟨o.slots, k b o (fun z => hc (by simp [z])) e⟩) (fun _ _ _ _ n => n)
    (fun b o hc e => ⟨o, k b o (fun z => hc (by simp [z])) e⟩) (fun _ _ e => e) (fun _ _ _ e => e) (fun b ps e => ⟨#[], by rw [e]; simp⟩) (fun m hm => ?_) (fun b u e => ?_) I.bare
  · have e : b = it := by simpa using hb
    subst e
    exact ⟨h1, hL, h2, h3⟩
  · obtain ⟨o, es, ep, ho, r⟩ := hm
    exact ⟨o, es, ep, k _ o (Ne.symm hL) ho, r⟩
  · refine (I.hok b u e).stay (fun c v hc q => k c v ?_ q) (fun _ q => q) fun _ _ q => q
    rcases hc with z | z
    · rw [z]; exact nit b u e
    · exact nit c _ z
theorem Inv.tok (I : Inv X pins σ H s) (t : Nat) : Inv X pins σ H { s with toks := t } := I.un (h' := s.heap) (t' := t) Un.refl I.hok
/-- all objects kept -/
theorem Inv.kept {t' : Nat} (I : Inv X pins σ H s) (k : ∀ b u, s.heap.get? b = some u → h'.get? b = some u) : Inv X pins σ H { s with heap := h', toks := t' } := I.un (Un.kept k) (I.hok.kept k)
/-- a new object laid and tracked -/
theorem Inv.laid {a : Addr} {o : HO} {t' : Nat} (I : Inv X pins σ H s) (k : ∀ b u, s.heap.get? b = some u → h'.get? b = some u) (hp : s.heap.objs.size ≤ a) (new : ObjOk X.prog X.w (upd H a o) h' a o) :
    Inv X pins σ (upd H a o) { s with heap := h', toks := t' } := I.un (Un.laid k hp (I.hok.fresh hp)) (I.hok.laid k hp new)
/-- an object written -/
theorem Inv.write {x e : Addr} {o : HO} {t' : Nat} (I : Inv X pins σ H s) (mu : Mut (H x)) (he : e = x ∨ H e = some (.own x)) (k : ∀ b u, b ≠ e → s.heap.get? b = some u → h'.get? b = some u) (heo : ∃ u, h'.get? e = some u)
    (new : ObjOk X.prog X.w (upd H x o) h' x o) : Inv X pins σ (upd H x o) { s with heap := h', toks := t' } := I.un (Un.write mu he k heo) (I.hok.write mu he k heo new)
theorem Inv.pins_of {pins' : List (Addr × Obj)} (I : Inv X pins σ H s) (h : ∀ p ∈ pins', s.heap.get? p.1 = some p.2 ∧ H p.1 = none ∧ p.1 ≠ X.env.locals ∧ p.1 ∉ X.fs ∧ ∀ v, p.2.data ≠ .cell v) : Inv X pins' σ H s :=
  ⟨I.ok, I.os, I.bare, I.base, I.loc, I.cell, I.free, I.freeC, fun p hp => (List.mem_append.mp hp).elim (fun z => I.pin p (List.mem_append_left _ z)) (h p), I.hok, I.len⟩

theorem nodup_ix {N : List Str} (hN : N.Nodup) {i j : Nat} {x : Str} (a : N[i]? = some x) (b : N[j]? = some x) : i = j := by
  obtain ⟨h1, e1⟩ := List.getElem?_eq_some_iff.mp a
  obtain ⟨h2, e2⟩ := List.getElem?_eq_some_iff.mp b
  exact (List.getElem_inj hN).mp (e1.trans e2.symm)

/-- a name is stored; what changed -/
theorem store_ok2 {M : Model} {A : Around} {E : Value → Shared → Prop} {i : Nat} {x : Str} {v : V} {u : Value} {Q : Unit → Shared → Prop} (I : Inv X pins σ H s) (hN : X.N.Nodup) (hi : X.N[i]? = some x) (hx : Loc X.env.scope x) (r : RelV v u)
    (h : ∀ s', Inv X pins (σ.set i (some v)) H s' → (∃ a, Heap.SameBut a s.heap s'.heap ∧ (a = X.env.locals ∨ X.env.cells.lookup x = some a)) → Q () s') (hf : X.fn x = true ∨ X.env.scope.names.lookup x = some .local := by first | exact .inl rfl | exact .inr rfl | assumption) : wpAny M A (storeName X.env x u) Q E s := by
  obtain ⟨m, hn, hl⟩ := id I.loc
  have hcls : (X.env.scope.kind == .class || (X.env.scope.kind == .module && X.env.locals != X.env.globals)) = false := by rw [I.ok.kind]; rfl
  have hiσ : i < σ.length := by rw [I.len]; exact (List.getElem?_eq_some_iff.mp hi).1
  have cne := I.cne
  have tracked : ∀ {a : Addr} {h' : Heap}, (∃ o, s.heap.get? a = some o ∧ H a = none) → Heap.SameBut a s.heap h' → HOk X.prog X.w H h' := fun {a h'} ha hs b ob e => by
    obtain ⟨_, _, hfree⟩ := ha
    refine (I.hok b ob e).stay (fun c w' hc q => (hs.2 c ?_).trans q) (fun _ q => q) fun _ _ q => q
    rintro rfl
    rcases hc with rfl | hc
    · rw [hfree] at e; cases e
    · rw [hfree] at hc; cases hc
  rcases hx with hk | hk
  · refine wpAny_storeName_local hk hn (fun h' hn' hs => ?_) hcls
    obtain ⟨oL, _, _, hoL, _⟩ := id hn
    refine h _ ⟨I.ok, I.os, I.bare, ⟨fun b o e n hb hx => ?_, fun b o e n hb hx => ?_, I.base.free, fun b o e hx => ?_, I.base.tups, I.base.frzs, I.base.tbls⟩, ⟨_, hn', fun j y v' e1 e2 e3 => ?_⟩, fun y c e => ?_, I.free, I.freeC, fun p hp => ?_, tracked ⟨oL, hoL, I.free⟩ hs, by simpa using I.len⟩ ⟨_, hs, .inl rfl⟩
    · exact (hs.2 b (Nat.ne_of_lt (Nat.lt_of_lt_of_le (Heap.lt_size e) I.ok.above))).trans (I.base.keep b o e n hb hx)
    · obtain ⟨sl, e1⟩ := I.base.slot b o e n hb hx
      exact ⟨sl, (hs.2 b (Nat.ne_of_lt (Nat.lt_of_lt_of_le (Heap.lt_size e) I.ok.above))).trans e1⟩
    · obtain ⟨o', e1⟩ := I.base.there b o e hx
      exact ⟨o', (hs.2 b (Nat.ne_of_lt (Nat.lt_of_lt_of_le (Heap.lt_size e) I.ok.above))).trans e1⟩
    · by_cases hj : j = i
      · subst hj
        rw [hi] at e1; cases e1
        rw [List.getElem?_set_self hiσ] at e2
        cases e2
        exact ⟨u, r, .inl ⟨hk, by simp⟩⟩
      · rw [List.getElem?_set_ne (Ne.symm hj)] at e2
        obtain ⟨u', r', q⟩ := hl j y v' e1 e2 e3
        refine ⟨u', r', ?_⟩
        rcases q with ⟨k, e⟩ | ⟨k, c, e, z⟩
        · refine .inl ⟨k, ?_⟩
          have : y ≠ x := fun e => hj (nodup_ix hN e1 (e ▸ hi))
          simp [this, e]
        · exact .inr ⟨k, c, e, z.sameBut hs (cne y c e)⟩
    · obtain ⟨w', z⟩ := I.cell y c e
      exact ⟨w', z.sameBut hs (cne y c e)⟩
    · obtain ⟨e, n, ne, nf, d⟩ := I.pin p hp
      exact ⟨(hs.2 p.1 ne).trans e, n, ne, nf, d⟩
  · have hfn : X.fn x = true := by
      rcases hf with z | z
      · exact z
      · rw [z] at hk; cases hk
    obtain ⟨c, hc⟩ := I.ok.has x (.inl hk)
    obtain ⟨w', z⟩ := I.cell x c hc
    refine wpAny_storeName_cell I.ok.kind hk hc z (fun h' hc' hs => ?_)
    obtain ⟨oc, hoc, hocd⟩ := id z
    refine h { s with heap := h' } ⟨I.ok, I.os, I.bare, ⟨fun b o e n hb hx => ?_, fun b o e n hb hx => ?_, I.base.free, fun b o e hx => ?_, I.base.tups, I.base.frzs, I.base.tbls⟩, ⟨m, hn.sameBut hs (Ne.symm (cne x c hc)), fun j y v' e1 e2 e3 => ?_⟩, fun y c' e => ?_, I.free, I.freeC, fun p hp => ?_, tracked ⟨oc, hoc, I.freeC x c hc⟩ hs, by simpa using I.len⟩ ⟨c, hs, .inr hc⟩
    · exact (hs.2 b (Nat.ne_of_lt (Nat.lt_of_lt_of_le (Heap.lt_size e) (I.ok.cab x c hfn hc)))).trans (I.base.keep b o e n hb hx)
    · obtain ⟨sl, e1⟩ := I.base.slot b o e n hb hx
      exact ⟨sl, (hs.2 b (Nat.ne_of_lt (Nat.lt_of_lt_of_le (Heap.lt_size e) (I.ok.cab x c hfn hc)))).trans e1⟩
    · obtain ⟨o', e1⟩ := I.base.there b o e hx
      exact ⟨o', (hs.2 b (Nat.ne_of_lt (Nat.lt_of_lt_of_le (Heap.lt_size e) (I.ok.cab x c hfn hc)))).trans e1⟩
    · by_cases hj : j = i
      · subst hj
        rw [hi] at e1; cases e1
        rw [List.getElem?_set_self hiσ] at e2
        cases e2
        exact ⟨u, r, .inr ⟨.inl hk, c, hc, hc'⟩⟩
      · rw [List.getElem?_set_ne (Ne.symm hj)] at e2
        obtain ⟨u', r', q⟩ := hl j y v' e1 e2 e3
        refine ⟨u', r', ?_⟩
        rcases q with q | ⟨k, c', e, z'⟩
        · exact .inl q
        · refine .inr ⟨k, c', e, z'.sameBut hs ?_⟩
          rintro rfl
          exact hj (nodup_ix hN e1 (I.ok.inj _ _ _ e hc ▸ hi))
    · by_cases hcc : c' = c
      · subst hcc; exact ⟨_, hc'⟩
      · obtain ⟨w2, z2⟩ := I.cell y c' e
        exact ⟨w2, z2.sameBut hs hcc⟩
    · obtain ⟨e, n, ne, nf, d⟩ := I.pin p hp
      refine ⟨(hs.2 p.1 ?_).trans e, n, ne, nf, d⟩
      intro q
      rw [q, hoc] at e
      have q' : oc = p.2 := Option.some.inj e
      exact d w' (by rw [← q']; exact hocd)
theorem store_ok {M : Model} {A : Around} {E : Value → Shared → Prop} {i : Nat} {x : Str} {v : V} {u : Value} {Q : Unit → Shared → Prop} (I : Inv X pins σ H s) (hN : X.N.Nodup) (hi : X.N[i]? = some x) (hx : Loc X.env.scope x) (r : RelV v u)
    (h : ∀ s', Inv X pins (σ.set i (some v)) H s' → Q () s') (hf : X.fn x = true ∨ X.env.scope.names.lookup x = some .local := by first | exact .inl rfl | exact .inr rfl | assumption) : wpAny M A (storeName X.env x u) Q E s :=
  store_ok2 I hN hi hx r (fun s' I' _ => h s' I') hf
/-- behind a call or a block, the state as it is -/
theorem Inv.call' {s' : Shared} {ch : List Addr} (I : Inv X pins σ H s) (ho : s'.os = s.os) (u : Un (frs X.stack) ch H H' s.heap s'.heap) (hok : HOk X.prog X.w H' s'.heap) (hg : AllBare s'.gens)
    (hch : ∀ b ∈ ch, (b ∈ X.ex ∨ X.s₀.heap.objs.size ≤ b) ∧ b ≠ X.env.locals ∧ (∀ x c, X.env.cells.lookup x = some c → c ≠ b) ∧ ∀ p ∈ X.pn ++ pins, p.1 ≠ b) : Inv X pins σ H' s' := by
  obtain ⟨h', g', d', t', o'⟩ := s'
  have e : o' = s.os := ho
  subst e
  exact I.call (g' := g') (t' := t') (d' := d') u hok hg hch
end

/-! ### the judgements -/
/-- an exception: its class, its own dict's address (where it has one), the abstract heap behind it -/
abbrev XK := Value → Option Addr → Hp → Prop
abbrev St := List (Option V)
abbrev VK := V → Hp → Prop
/-- an expression's reading; a test's; an argument list's -/
abbrev TE := St → Hp → VK → Prop
abbrev TT := St → Hp → (Bool → Hp → Prop) → Prop
abbrev TA := St → Hp → (List V → Hp → Prop) → Prop
/-- what is wanted behind a statement -/
structure Ends where
  nx : St → Hp → Prop
  rt : VK
  bk : St → Hp → Prop := fun _ _ => False
  ct : St → Hp → Prop := fun _ _ => False
abbrev TS := Ends → St → Hp → Prop

def EP (X : Cx) (pins : List (Addr × Obj)) (σ : St) (Q : VK) (u : Value) (s' : Shared) : Prop := ∃ v H', Inv X pins σ H' s' ∧ RelV v u ∧ Q v H'
def TP (X : Cx) (pins : List (Addr × Obj)) (σ : St) (Q : Bool → Hp → Prop) (b : Bool) (s' : Shared) : Prop := ∃ H', Inv X pins σ H' s' ∧ Q b H'
def AP (X : Cx) (pins : List (Addr × Obj)) (σ : St) (Q : List V → Hp → Prop) (us : List Value) (s' : Shared) : Prop := ∃ vs H', Inv X pins σ H' s' ∧ Vals vs us ∧ Q vs H'
def SP (X : Cx) (pins : List (Addr × Obj)) (D : Ends) (f : Flow) (s' : Shared) : Prop :=
  match f with
  | .next => ∃ σ' H', Inv X pins σ' H' s' ∧ D.nx σ' H'
  | .brk => ∃ σ' H', Inv X pins σ' H' s' ∧ D.bk σ' H'
  | .cont => ∃ σ' H', Inv X pins σ' H' s' ∧ D.ct σ' H'
  | .ret u => ∃ v σ' H', Inv X pins σ' H' s' ∧ RelV v u ∧ D.rt v H'

def PE (X : Cx) (e : Expr) (t : TE) : Prop :=
  ∀ (pins : List (Addr × Obj)) (s : Shared) (σ : St) (H : Hp) (Q : VK), Inv X pins σ H s → t σ H Q → wpAny (model X.prog X.w) X.A (eval e X.env) (EP X pins σ Q) X.xe s
def PT (X : Cx) (e : Expr) (t : TT) : Prop :=
  ∀ (pins : List (Addr × Obj)) (s : Shared) (σ : St) (H : Hp) (Q : Bool → Hp → Prop), Inv X pins σ H s → t σ H Q → wpAny (model X.prog X.w) X.A (isTrue e X.env (eval e X.env)) (TP X pins σ Q) X.xe s
/-- a test whatever its 'whole' is (and, or) -/
def PW (X : Cx) (e : Expr) (t : TT) : Prop :=
  ∀ (whole : Sem Value) (pins : List (Addr × Obj)) (s : Shared) (σ : St) (H : Hp) (Q : Bool → Hp → Prop), Inv X pins σ H s → t σ H Q → wpAny (model X.prog X.w) X.A (isTrue e X.env whole) (TP X pins σ Q) X.xe s
theorem PW.pt {X : Cx} {e : Expr} {t : TT} (h : PW X e t) : PT X e t := h _
/-- an argument list (no star), from the left -/
def PA (X : Cx) (es : List Expr) (t : TA) : Prop :=
  ∀ (pos : Pos) (pins : List (Addr × Obj)) (s : Shared) (σ : St) (H : Hp) (Q : List V → Hp → Prop), Inv X pins σ H s → t σ H Q → wpAny (model X.prog X.w) X.A (spliced (backTo pos (starEach es X.env))) (AP X pins σ Q) X.xe s
def PS (X : Cx) (st : Stmt) (t : TS) : Prop :=
  ∀ (pins : List (Addr × Obj)) (s : Shared) (σ : St) (H : Hp) (D : Ends), Inv X pins σ H s → t D σ H → wpAny (model X.prog X.w) X.A (exec st X.env) (SP X pins D) X.xe s
def PSs (X : Cx) (st : List Stmt) (t : TS) : Prop :=
  ∀ (pins : List (Addr × Obj)) (s : Shared) (σ : St) (H : Hp) (D : Ends), Inv X pins σ H s → t D σ H → wpAny (model X.prog X.w) X.A (execs st X.env) (SP X pins D) X.xe s
/-- weaken the end -/
theorem thn {α : Type} {t : Sem α} {Q Q' : α → Shared → Prop} {M : Model} {A : Around} {E : Value → Shared → Prop} {s : Shared} (h : wpAny M A t Q E s) (hQ : ∀ a s, Q a s → Q' a s) : wpAny M A t Q' E s := wpAny_mono h hQ fun _ _ x => x
end L2

namespace L2
open PySem PySem.Spec PyProof.Rows
section
variable {X : Cx}

/-- two expressions in a row -/
theorem bin {a b : Expr} {ta tb : TE} (ha : PE X a ta) (hb : PE X b tb) {pins : List (Addr × Obj)} {s : Shared} {σ : St} {H : Hp} {R : V → V → Hp → Prop} (I : Inv X pins σ H s) (h : ta σ H fun x H1 => tb σ H1 fun y H2 => R x y H2)
    {α : Type} {Q : α → Shared → Prop} {f : Value → Value → Sem α}
    (hf : ∀ v u s2 x y H2, Inv X pins σ H2 s2 → RelV x v → RelV y u → R x y H2 → wpAny (model X.prog X.w) X.A (f v u) Q X.xe s2) :
    wpAny (model X.prog X.w) X.A (eval a X.env) (fun v s₁ => wpAny (model X.prog X.w) X.A (eval b X.env) (fun u s₂ => wpAny (model X.prog X.w) X.A (f v u) Q X.xe s₂) X.xe s₁) X.xe s := by
  refine thn (ha pins s σ H _ I h) fun v s1 ⟨x, H1, I1, r1, q1⟩ => ?_
  refine thn (hb pins s1 σ H1 _ I1 q1) fun u s2 ⟨y, H2, I2, r2, q2⟩ => ?_
  exact hf v u s2 x y H2 I2 r1 r2 q2

/-! ### names and constants -/
def tVar (i : Nat) : TE := fun σ H Q => ∃ v, σ[i]? = some (some v) ∧ Q v H
def tC (v : V) : TE := fun _ H Q => Q v H
theorem pe_var {i : Nat} {x : Str} {pos : Pos} (hN : X.N[i]? = some x) (hv : Vis X.env.scope x) (hd : (x == ("__debug__" : Str)) = false := by decide) (hcd : (x == ("__classdict__" : Str)) = false := by decide) : PE X (.Name x pos) (tVar i) := by
  intro pins s σ H Q I h
  obtain ⟨v, e, h⟩ := h
  obtain ⟨m, hn, hl⟩ := I.loc
  obtain ⟨u, r, l⟩ := hl i x v hN e hv
  have fin : EP X pins σ Q u s := ⟨v, H, I, r, h⟩
  rcases l with ⟨hk, hm⟩ | ⟨hk, c, hc, hcell⟩
  · exact wpAny_Name (wpAny_loadName_local I.ok.kind hk hn hm fin) hd
  · rcases hk with hk | hk
    · exact wpAny_Name (wpAny_loadName_cell I.ok.kind hk hc hcell fin) hd
    · exact wpAny_Name (wpAny_loadName_free I.ok.kind hk hc hcell fin hcd) hd
theorem pe_int {i j pos} : PE X (.Constant (.int i) j pos) (tC (.int i)) := fun _ _ _ H _ I h => wpAny_Constant_int ⟨.int i, H, I.tok _, ⟨_, rfl⟩, h⟩
theorem pe_bl {b j pos} : PE X (.Constant (.bool b) j pos) (tC (.bl b)) := fun _ _ _ H _ I h => Constant_bool ⟨.bl b, H, I, rfl, h⟩
theorem pe_non {j pos} : PE X (.Constant .none j pos) (tC .non) := fun _ _ _ H _ I h => Constant_none ⟨.non, H, I, rfl, h⟩
theorem pe_str {x j pos} : PE X (.Constant (.str x) j pos) (tC (.str x)) := fun _ _ _ H _ I h => Calls.Constant_str ⟨.str x, H, I.tok _, ⟨_, rfl⟩, h⟩

/-- a global name of the def -/
def Gl (X : Cx) (x : Str) : Prop := X.env.kindOf x = some .globalImplicit
theorem ld_glob {E : Value → Shared → Prop} {pins : List (Addr × Obj)} {s : Shared} {σ : St} {H : Hp} {x : Str} {u : Value} {pos : Pos} {Q : Value → Shared → Prop} (I : Inv X pins σ H s) (hg : Gl X x) (hm : X.mg x = some u) (h : Q u s)
    (hd : (x == ("__debug__" : Str)) = false := by decide) : wpAny (model X.prog X.w) X.A (eval (.Name x pos) X.env) Q E s :=
  Calls.Name_function_global I.ok.kind hg (Calls.loadGlobal_global (by rw [I.ok.glob]; exact I.mod.glob.keeps I.bk) hm h) hd
theorem ld_blt {E : Value → Shared → Prop} {pins : List (Addr × Obj)} {s : Shared} {σ : St} {H : Hp} {x : Str} {u : Value} {pos : Pos} {Q : Value → Shared → Prop} (I : Inv X pins σ H s) (hg : Gl X x) (hm : X.mg x = none) (hv : bootBuiltins x = some u) (h : Q u s)
    (hn : x ≠ "__name__" := by decide) (hd : (x == ("__debug__" : Str)) = false := by decide) : wpAny (model X.prog X.w) X.A (eval (.Name x pos) X.env) Q E s := by
  obtain ⟨mb, h1, h2⟩ := I.mod.blt
  exact Calls.Name_function_global I.ok.kind hg (Calls.loadGlobal_builtin (by rw [I.ok.glob]; exact I.mod.glob.keeps I.bk) hm (by rw [I.ok.blt]; exact h1.keeps I.bk) ((h2 x hn).trans hv) h) hd
/-- a module's constant, a class, a function, as a value -/
theorem pe_glob {x : Str} {v : V} {u : Value} {pos : Pos} (hg : Gl X x) (hm : X.mg x = some u) (r : RelV v u) (hd : (x == ("__debug__" : Str)) = false := by decide) : PE X (.Name x pos) (tC v) :=
  fun _ _ _ H _ I h => ld_glob I hg hm ⟨v, H, I, r, h⟩ hd
theorem pe_bltn {x : Str} {v : V} {u : Value} {pos : Pos} (hg : Gl X x) (hm : X.mg x = none) (hv : bootBuiltins x = some u) (r : RelV v u) (hn : x ≠ "__name__" := by decide) (hd : (x == ("__debug__" : Str)) = false := by decide) : PE X (.Name x pos) (tC v) :=
  fun _ _ _ H _ I h => ld_blt I hg hm hv ⟨v, H, I, r, h⟩ hn hd

/-! ### arithmetic -/
variable {a b : Expr} {ta tb : TE} {pos : Pos}
/-! ### comparisons -/
/-! ### and, or, not -/
variable {tA tB' : TT} {rest : List Expr}
def tAnd (t u : TT) : TT := fun σ H Q => t σ H fun c H1 => if c = true then u σ H1 Q else Q false H1
def tOr (t u : TT) : TT := fun σ H Q => t σ H fun c H1 => if c = true then Q true H1 else u σ H1 Q
def tNot (t : TT) : TT := fun σ H Q => t σ H fun c H1 => Q (!c) H1
theorem pw_and1 (ha : PT X a tA) : PW X (.BoolOp .And [a] pos) tA := by
  intro wh pins s σ H Q I h
  refine isTrue_and (thn (ha pins s σ H Q I h) fun c s1 e => ?_)
  cases c with
  | true => exact isTrue_and_nil e
  | false => exact e
theorem pw_or1 (ha : PT X a tA) : PW X (.BoolOp .Or [a] pos) tA := by
  intro wh pins s σ H Q I h
  refine isTrue_or (thn (ha pins s σ H Q I h) fun c s1 e => ?_)
  cases c with
  | false => exact isTrue_or_nil e
  | true => exact e
theorem pw_and (ha : PT X a tA) (hb : PW X (.BoolOp .And (b :: rest) pos) tB') : PW X (.BoolOp .And (a :: b :: rest) pos) (tAnd tA tB') := by
  intro wh pins s σ H Q I h
  refine isTrue_and (thn (ha pins s σ H _ I h) fun c s1 ⟨H1, I1, q1⟩ => ?_)
  cases c with
  | true => exact hb wh pins s1 σ H1 Q I1 q1
  | false => exact ⟨H1, I1, q1⟩
theorem pw_or (ha : PT X a tA) (hb : PW X (.BoolOp .Or (b :: rest) pos) tB') : PW X (.BoolOp .Or (a :: b :: rest) pos) (tOr tA tB') := by
  intro wh pins s σ H Q I h
  refine isTrue_or (thn (ha pins s σ H _ I h) fun c s1 ⟨H1, I1, q1⟩ => ?_)
  cases c with
  | true => exact ⟨H1, I1, q1⟩
  | false => exact hb wh pins s1 σ H1 Q I1 q1
theorem pt_not (ha : PT X a tA) : PT X (.UnaryOp .Not a pos) (tNot tA) := by
  intro pins s σ H Q I h
  exact isTrue_not (ha pins s σ H (fun c H1 => Q (!c) H1) I h)
theorem pe_one {op} {t : TE} (h : PE X a t) : PE X (.BoolOp op [a] pos) t := fun pins s σ H Q I hw => BoolOp_one (h pins s σ H Q I hw)
end
end L2

namespace L2
open PySem PySem.Spec PyProof.Rows

/-! ### a list, a tuple that is read: tracked, frozen, or an object of the module -/
def SqL (K : PySem.W.Frag) (H : Hp) (a : Addr) (xs : List V) : Prop :=
  Rd H a (.lst xs) ∨
    ∃ (o : Obj) (its : Array Value) (n : Nat), K.lookup a = some o ∧ o.cls = .type "list" ∧ o.dict = none ∧ o.data = .seq its n ∧ its.size ≤ sizeLine ∧ Vals xs its.toList
def SqT (K : PySem.W.Frag) (H : Hp) (a : Addr) (xs : List V) : Prop :=
  Rd H a (.tup xs) ∨
    ∃ (o : Obj) (its : Array Value) (n : Nat), K.lookup a = some o ∧ o.cls = .type "tuple" ∧ o.data = .seq its n ∧ its.size ≤ sizeLine ∧ Vals xs its.toList
def absV : Value → Option V
  | .none => some .non
  | .bool b => some (.bl b)
  | .int i _ => some (.int i)
  | .str x _ => some (.str x)
  | .bytes b _ => some (.byt b)
  | .float b _ => some (.flt b)
  | .ref a => some (.ref a)
  | .type n => some (.ty n)
  | _ => none
theorem RelV.abs {x : V} {u : Value} (r : RelV x u) : absV u = some x := by
  cases x with
  | non => cases r; rfl
  | bl _ => cases r; rfl
  | int _ => obtain ⟨t, rfl⟩ := r; rfl
  | str _ => obtain ⟨t, rfl⟩ := r; rfl
  | byt _ => obtain ⟨t, rfl⟩ := r; rfl
  | flt _ => obtain ⟨t, rfl⟩ := r; rfl
  | ref _ => cases r; rfl
  | ty _ => cases r; rfl
theorem RelV.inj {x y : V} {u : Value} (r : RelV x u) (q : RelV y u) : x = y := Option.some.inj (r.abs.symm.trans q.abs)
theorem Vals.inj : ∀ {xs ys : List V} {us : List Value}, Vals xs us → Vals ys us → xs = ys
  | _, _, _, .nil, .nil => rfl
  | _, _, _, .cons r t, .cons r' t' => by rw [r.inj r', Vals.inj t t']
section
variable {X : Cx} {pins : List (Addr × Obj)} {σ : St} {H : Hp} {s : Shared} {a : Addr} {xs ys : List V}
theorem SqL.of {K : PySem.W.Frag} (h : H a = some (.lst xs)) : SqL K H a xs := .inl (.inl h)
theorem SqT.of {K : PySem.W.Frag} (h : H a = some (.tup xs)) : SqT K H a xs := .inl (.inl h)
theorem Inv.list (I : Inv X pins σ H s) (h : SqL X.K H a xs) : ∃ its : List Value, Vals xs its ∧ PlainL s.heap a its.toArray ∧ xs.length ≤ sizeLine := by
  rcases h with h | ⟨o, its, n, hk, hc, hd, hs, hz, r⟩
  · obtain ⟨z, its, n, r, e⟩ := h.ok I.hok
    exact ⟨its, r, ⟨_, n, e, rfl, rfl, rfl⟩, z⟩
  · refine ⟨its.toList, r, ⟨o, n, I.kIn a o hk, hc, hd, by simpa using hs⟩, ?_⟩
    have e := r.length
    simp only [Array.length_toList] at e
    omega
theorem Inv.tuple (I : Inv X pins σ H s) (h : SqT X.K H a xs) : ∃ its : List Value, Vals xs its ∧ IsTup s.heap a its.toArray ∧ xs.length ≤ sizeLine := by
  rcases h with h | ⟨o, its, n, hk, hc, hs, hz, r⟩
  · obtain ⟨z, its, r, p⟩ := h.ok I.hok
    exact ⟨its, r, p, z⟩
  · refine ⟨its.toList, r, ⟨o, I.kIn a o hk, hc, n, by simpa using hs⟩, ?_⟩
    have e := r.length
    simp only [Array.length_toList] at e
    omega
theorem Inv.list_inj (I : Inv X pins σ H s) (h : SqL X.K H a xs) (h' : SqL X.K H a ys) : xs = ys := by
  obtain ⟨its, r, ⟨o, n, e, _, _, d⟩, _⟩ := I.list h
  obtain ⟨its', r', ⟨o', n', e', _, _, d'⟩, _⟩ := I.list h'
  rw [e] at e'; cases e'
  rw [d] at d'
  injection d' with d1 _
  have : its = its' := by simpa using congrArg Array.toList d1
  subst this
  exact r.inj r'
theorem Inv.tuple_inj (I : Inv X pins σ H s) (h : SqT X.K H a xs) (h' : SqT X.K H a ys) : xs = ys := by
  obtain ⟨its, r, ⟨o, e, _, n, d⟩, _⟩ := I.tuple h
  obtain ⟨its', r', ⟨o', e', _, n', d'⟩, _⟩ := I.tuple h'
  rw [e] at e'; cases e'
  rw [d] at d'
  injection d' with d1 _
  have : its = its' := by simpa using congrArg Array.toList d1
  subst this
  exact r.inj r'
end

/-! ### another wish about exceptions -/
abbrev Cx.wish (X : Cx) (E : Value → Shared → Prop) : Cx := { X with xe := E }
/-- no exception leaves -/
abbrev Cx.nox (X : Cx) : Cx := X.wish fun _ _ => False
theorem Cx.Ok.wish {X : Cx} (ok : X.Ok) (E : Value → Shared → Prop) : (X.wish E).Ok :=
  ⟨ok.mod, ok.kind, ok.glob, ok.blt, ok.above, ok.inj, ok.has, ok.cab, ok.hd, ok.frames, ok.stk, ok.exf, ok.bs, ok.bsz, ok.noex, ok.exfs, ok.funs, ok.frf⟩
theorem Cx.Ok.unwish {X : Cx} {E : Value → Shared → Prop} (ok : (X.wish E).Ok) : X.Ok :=
  ⟨ok.mod, ok.kind, ok.glob, ok.blt, ok.above, ok.inj, ok.has, ok.cab, ok.hd, ok.frames, ok.stk, ok.exf, ok.bs, ok.bsz, ok.noex, ok.exfs, ok.funs, ok.frf⟩
section
variable {X : Cx} {pins : List (Addr × Obj)} {σ : St} {H : Hp} {s : Shared} {E : Value → Shared → Prop}
theorem Inv.wish (I : Inv X pins σ H s) (E : Value → Shared → Prop) : Inv (X.wish E) pins σ H s := ⟨I.ok.wish E, I.os, I.bare, I.base, I.loc, I.cell, I.free, I.freeC, I.pin, I.hok, I.len⟩
theorem Inv.unwish (I : Inv (X.wish E) pins σ H s) : Inv X pins σ H s := ⟨I.ok.unwish, I.os, I.bare, I.base, I.loc, I.cell, I.free, I.freeC, I.pin, I.hok, I.len⟩
theorem SP.unwish {D : Ends} {f : Flow} {s' : Shared} (h : SP (X.wish E) pins D f s') : SP X pins D f s' := by
  cases f with
  | next => obtain ⟨σ', H', I, q⟩ := h; exact ⟨σ', H', I.unwish, q⟩
  | brk => obtain ⟨σ', H', I, q⟩ := h; exact ⟨σ', H', I.unwish, q⟩
  | cont => obtain ⟨σ', H', I, q⟩ := h; exact ⟨σ', H', I.unwish, q⟩
  | ret u => obtain ⟨v, σ', H', I, r, q⟩ := h; exact ⟨v, σ', H', I.unwish, r, q⟩
theorem PSs.nox {st : List Stmt} {t : TS} (h : PSs X.nox st t) : PSs X st t := fun pins s σ H D I hw =>
  wpAny_mono (h pins s σ H D (I.wish _) hw) (fun _ _ q => q.unwish) fun _ _ z => False.elim z
end

/-! ### blocks and small statements -/
section
variable {X : Cx} {st : Stmt} {rest : List Stmt} {t u : TS} {e : Expr} {te : TE} {pos : Pos}
def tNext : TS := fun D σ H => D.nx σ H
def tSeq (t u : TS) : TS := fun D σ H => t { D with nx := u D } σ H
theorem pss_nil : PSs X [] tNext := fun _ _ σ H _ I h => wpAny_execs_nil ⟨σ, H, I, h⟩
theorem pss_cons (h1 : PS X st t) (h2 : PSs X rest u) : PSs X (st :: rest) (tSeq t u) := by
  intro pins s σ H D I h
  refine wpAny_execs_cons (thn (h1 pins s σ H { D with nx := u D } I h) fun f s1 q => ?_)
  cases f with
  | next =>
    obtain ⟨σ', H', I', q⟩ := q
    exact h2 pins s1 σ' H' D I' q
  | ret v => exact q
  | brk => exact q
  | cont => exact q
theorem pss_one (h1 : PS X st t) : PSs X [st] t := by
  intro pins s σ H D I h
  refine wpAny_execs_cons (thn (h1 pins s σ H D I h) fun f s1 q => ?_)
  cases f with
  | next => exact wpAny_execs_nil q
  | ret v => exact q
  | brk => exact q
  | cont => exact q
/-- in a def's body nothing is shown -/
theorem Inv.quiet {pins : List (Addr × Obj)} {σ : St} {H : Hp} {s : Shared} (I : Inv X pins σ H s) : interactive X.env = false := by simp [interactive, I.ok.kind]
/-- an expression whose value is dropped -/
def tDrop (te : TE) : TS := fun D σ H => te σ H fun _ H1 => D.nx σ H1
theorem ps_expr (he : PE X e te) (hs : swapsWith e none pos.line X.env = pure false := by rfl) : PS X (.Expr e pos) (tDrop te) := by
  intro pins s σ H D I h
  exact wpAny_Expr_any (thn (he pins s σ H _ I h) fun v s1 ⟨x, H1, I1, r1, q1⟩ => ⟨σ, H1, I1, q1⟩) I.quiet hs
def tRet (te : TE) : TS := fun D σ H => te σ H D.rt
theorem ps_ret (he : PE X e te) : PS X (.Return (some e) pos) (tRet te) := by
  intro pins s σ H D I h
  exact wpAny_Return_some (thn (he pins s σ H _ I h) fun v s1 ⟨x, H1, I1, r1, q1⟩ => ⟨x, σ, H1, I1, r1, q1⟩)
def tIfS (c : TT) (t u : TS) : TS := fun D σ H => c σ H fun b H1 => if b = true then t D σ H1 else u D σ H1
theorem ps_if {c : Expr} {a b : List Stmt} {tc : TT} (hc : PT X c tc) (ha : PSs X a t) (hb : PSs X b u) : PS X (.If c a b pos) (tIfS tc t u) := by
  intro pins s σ H D I h
  refine wpAny_If (thn (hc pins s σ H _ I h) fun d s1 ⟨H1, I1, q1⟩ => ?_)
  cases d with
  | true => exact ha pins s1 σ H1 D I1 q1
  | false => exact hb pins s1 σ H1 D I1 q1
end

/-! ### targets -/
abbrev TG := V → St → Hp → (St → Hp → Prop) → Prop
abbrev TGs := List V → St → Hp → (St → Hp → Prop) → Prop
def PG (X : Cx) (target : Expr) (t : TG) : Prop :=
  ∀ (pins : List (Addr × Obj)) (s : Shared) (σ : St) (H : Hp) (v : V) (u : Value) (Q : St → Hp → Prop), Inv X pins σ H s → RelV v u → t v σ H Q →
    wpAny (model X.prog X.w) X.A (assign target X.env u) (fun _ s' => ∃ σ' H', Inv X pins σ' H' s' ∧ Q σ' H') X.xe s
/-- several targets, one after another -/
def PGs (X : Cx) (ts : List Expr) (t : TGs) : Prop :=
  ∀ (pins : List (Addr × Obj)) (s : Shared) (σ : St) (H : Hp) (vs : List V) (us : List Value) (Q : St → Hp → Prop), Inv X pins σ H s → Vals vs us → t vs σ H Q →
    wpAny (model X.prog X.w) X.A (assignInOrder ((assignEach ts X.env).map (·.2)) us) (fun _ s' => ∃ σ' H', Inv X pins σ' H' s' ∧ Q σ' H') X.xe s
/-- o[i] = v, by values -/
abbrev TSet := V → V → V → Hp → (Hp → Prop) → Prop
def PSet (X : Cx) (t : TSet) : Prop :=
  ∀ (pins : List (Addr × Obj)) (s : Shared) (σ : St) (H : Hp) (o i v : V) (ov iv u : Value) (Q : Hp → Prop), Inv X pins σ H s → RelV o ov → RelV i iv → RelV v u → t o i v H Q →
    wpAny (model X.prog X.w) X.A (setItem ov iv u) (fun _ s' => ∃ H', Inv X pins σ H' s' ∧ Q H') X.xe s
section
variable {X : Cx} {pos : Pos}
def gName (i : Nat) : TG := fun v σ H Q => Q (σ.set i (some v)) H
theorem pg_name {i : Nat} {x : Str} (hN : X.N.Nodup) (hi : X.N[i]? = some x) (hx : Loc X.env.scope x) (hf : X.fn x = true ∨ X.env.scope.names.lookup x = some .local := by first | exact .inl rfl | exact .inr rfl | assumption) : PG X (.Name x pos) (gName i) := by
  intro pins s σ H v u Q I r h
  exact wpAny_assign_Name (store_ok I hN hi hx r (fun s' I' => ⟨_, H, I', h⟩) hf)
def gNil : TGs := fun vs σ H Q => vs = [] ∧ Q σ H
def gCons (t : TG) (u : TGs) : TGs := fun vs σ H Q => ∃ v r, vs = v :: r ∧ t v σ H fun σ' H' => u r σ' H' Q
theorem pgs_nil : PGs X [] gNil := by
  intro pins s σ H vs us Q I r h
  obtain ⟨e, h⟩ := h
  subst e
  cases r
  exact assignInOrder_nil ⟨σ, H, I, h⟩
theorem pgs_cons {e : Expr} {es : List Expr} {t : TG} {u : TGs} (h1 : PG X e t) (h2 : PGs X es u)
    (hs : (assignEach (e :: es) X.env).map (·.2) = assign e X.env :: (assignEach es X.env).map (·.2) := by rfl) : PGs X (e :: es) (gCons t u) := by
  intro pins s σ H vs us Q I r h
  obtain ⟨v, vr, e1, h⟩ := h
  subst e1
  cases r with
  | cons r rr =>
    rw [hs]
    refine assignInOrder_cons (thn (h1 pins s σ H _ _ _ I r h) fun _ s1 ⟨σ1, H1, I1, q1⟩ => ?_)
    exact h2 pins s1 σ1 H1 _ _ Q I1 rr q1
/-- (a, b, ..) = a tuple of that length -/
def gTup (K : PySem.W.Frag) (n : Nat) (t : TGs) : TG := fun v σ H Q => ∃ a xs, v = .ref a ∧ SqT K H a xs ∧ xs.length = n ∧ t xs σ H Q
theorem pg_tup {es : List Expr} {k : Nat} {t : TGs} {n : Nat} (hc : X.calm = true) (h : PGs X es t)
    (hn : (assignEach es X.env).length = n := by rfl) (hst : (assignEach es X.env).findIdx? (·.1) = none := by rfl) : PG X (.Tuple es k pos) (gTup X.K n t) := by
  intro pins s σ H v u Q I r hw
  obtain ⟨a, xs, e1, hq, hl, hw⟩ := hw
  subst e1
  cases r
  obtain ⟨its, rv, ht, hz⟩ := I.tuple hq
  refine assign_Tuple_tuple (I.ok.hd hc) ht (by simp [hn, ← hl, rv.length]) hst fun h' hx => ?_
  have I1 : Inv X pins σ H { s with heap := h' } := I.kept (t' := s.toks) fun b o e => hx b o (Nat.ne_of_lt (Heap.lt_size e)) e
  exact h pins _ σ H xs _ Q I1 (by simpa using rv) hw
/-- o[i] = .. -/
def gSub (to ti : TE) (t : TSet) : TG := fun v σ H Q => to σ H fun o H1 => ti σ H1 fun i H2 => t o i v H2 fun H3 => Q σ H3
theorem pg_sub {o i : Expr} {to ti : TE} {t : TSet} (ho : PE X o to) (hi : PE X i ti) (hs : PSet X t)
    (ha : ∀ v, assign (.Subscript o i pos) X.env v = (do
      let ov ← holding [v] (eval o X.env)
      let iv ← holding [v, ov] (eval i X.env)
      standAt pos
      holding [v, ov, iv] (setItem ov iv v)
      release [v, ov, iv] []) := by intro _; rfl) : PG X (.Subscript o i pos) (gSub to ti t) := by
  intro pins s σ H v u Q I r h
  rw [ha]
  refine wpAny_bind (wpAny_holding (thn (ho pins s σ H _ I h) fun ov s1 ⟨x, H1, I1, r1, q1⟩ => ?_))
  refine wpAny_bind (wpAny_holding (thn (hi pins s1 σ H1 _ I1 q1) fun iv s2 ⟨y, H2, I2, r2, q2⟩ => ?_))
  refine wpAny_bind (wpAny_standAt (wpAny_bind (wpAny_holding (thn (hs pins s2 σ H2 x y v ov iv u _ I2 r1 r2 r q2) fun _ s3 ⟨H3, I3, q3⟩ => ?_))))
  exact wpAny_release ⟨σ, H3, I3, q3⟩
/-- target = value -/
def tAsg (te : TE) (g : TG) : TS := fun D σ H => te σ H fun x H1 => g x σ H1 D.nx
theorem ps_asg {tg e : Expr} {te : TE} {g : TG} (he : PE X e te) (hg : PG X tg g) (hs : swapsWithSole [tg] e pos.line X.env = pure false := by rfl) (hw : swappedStores [tg] e X.env = pure none := by rfl)
    (h1 : (assignEach [tg] X.env).map (·.2) = [assign tg X.env] := by rfl) : PS X (.Assign [tg] e pos) (tAsg te g) := by
  intro pins s σ H D I h
  refine wpAny_Assign_stores (thn (he pins s σ H _ I h) fun v s1 ⟨x, H1, I1, r1, q1⟩ => ?_) hs hw
  rw [h1]
  exact thn (hg pins s1 σ H1 x v _ I1 r1 q1) fun _ s2 q => q
/-- name = value -/
theorem ps_set {i : Nat} {x : Str} {e : Expr} {te : TE} {pos' : Pos} (hN : X.N.Nodup) (hi : X.N[i]? = some x) (hx : Loc X.env.scope x) (he : PE X e te) (hs : swapsWith e (some (.Name x pos')) pos.line X.env = pure false := by rfl) (hf : X.fn x = true ∨ X.env.scope.names.lookup x = some .local := by first | exact .inl rfl | exact .inr rfl | assumption) :
    PS X (.Assign [.Name x pos'] e pos) (tAsg te (gName i)) := by
  intro pins s σ H D I h
  refine wpAny_Assign_Name (thn (he pins s σ H _ I h) fun v s1 ⟨y, H1, I1, r1, q1⟩ => ?_) hs
  exact store_ok I1 hN hi hx r1 (fun s2 I2 => ⟨_, H1, I2, q1⟩) hf
end

/-! ### while -/
section
variable {X : Cx} {pos : Pos}
end

/-! ### what a loop or a comprehension walks -/
/-- at turn i: it yields x (the heap may grow), or it stops -/
structure It where
  go : Nat → Hp → Prop
  yld : Nat → Hp → V → Hp → Prop
  stop : Nat → Hp → Prop
/-- the iterator's own objects may turn: they are not the frame's, not pinned, younger than the entry (or a comprehension's own) -/
def FpOk (X : Cx) (pins : List (Addr × Obj)) (H : Hp) (b : Addr) : Prop :=
  H b = none ∧ b ≠ X.env.locals ∧ b ∉ X.fs ∧ (b ∈ X.ex ∨ X.s₀.heap.objs.size ≤ b) ∧ (∀ x c, X.env.cells.lookup x = some c → c ≠ b) ∧ ∀ p ∈ X.pn ++ pins, p.1 ≠ b
theorem Inv.fpOk {X : Cx} {pins : List (Addr × Obj)} {σ : St} {H H' : Hp} {s : Shared} {b : Addr} (I : Inv X pins σ H s) (hb : s.heap.objs.size ≤ b) (hn : H' b = none) : FpOk X pins H' b := by
  refine ⟨hn, Nat.ne_of_gt (Nat.lt_of_lt_of_le I.lt hb), I.nofs hb, .inr (Nat.le_trans I.sz hb), fun x c e z => ?_, fun p hp z => ?_⟩
  · obtain ⟨v, q⟩ := I.cell x c e
    exact absurd (Nat.lt_of_lt_of_le q.lt (by rw [z]; exact hb)) (Nat.lt_irrefl _)
  · exact absurd (Nat.lt_of_lt_of_le (Heap.lt_size (I.pin p hp).1) (by rw [z]; exact hb)) (Nat.lt_irrefl _)
structure Turn (P : Program) (w : World) (K : PySem.W.Frag) (tg : Expr) (J : It) (fp : List Addr) (it : Addr) (tn : Nat → Heap → Prop) : Prop where
  mem : it ∈ fp
  obj : ∀ i h, tn i h → ∀ b ∈ fp, ∃ o, h.get? b = some o ∧ ∀ v, o.data ≠ .cell v
  keep : ∀ i h h', tn i h → (∀ b ∈ fp, ∀ o, h.get? b = some o → h'.get? b = some o) → tn i h'
  item : ∀ (X : Cx), X.prog = P → X.w = w → X.K = K → X.calm = true → ∀ (i : Nat) (pins : List (Addr × Obj)) (s : Shared) (σ : St) (H : Hp) (E : Value → Shared → Prop), Inv X pins σ H s → (∀ b ∈ fp, FpOk X pins H b) → tn i s.heap → J.go i H →
    wpAny (model P w) X.A (pyNext (.ref it)) (fun r s1 => ∃ u, r = some u ∧
      wpAny (model P w) X.A (letOwnedTupleGo tg (.ref it) u) (fun _ s2 => ∃ x H', Inv X pins σ H' s2 ∧ RelV x u ∧ J.yld i H x H' ∧ tn (i + 1) s2.heap ∧ ∀ b ∈ fp, H' b = none) E s1) E s
  done : ∀ (X : Cx), X.prog = P → X.w = w → X.K = K → X.calm = true → ∀ (i : Nat) (pins : List (Addr × Obj)) (s : Shared) (σ : St) (H : Hp) (E : Value → Shared → Prop), Inv X pins σ H s → (∀ b ∈ fp, FpOk X pins H b) → tn i s.heap → J.stop i H →
    wpAny (model P w) X.A (pyNext (.ref it)) (fun r s1 => r = none ∧ Inv X pins σ H s1) E s
  self : ∀ (A : Around) (i : Nat) (s : Shared) (Q : Value → Shared → Prop) (E : Value → Shared → Prop), tn i s.heap → Q (.ref it) s → wpAny (model P w) A (pyIter (.ref it)) Q E s
abbrev TI := St → Hp → (It → Hp → Prop) → Prop
/-- an iterator has come -/
def PIE (X : Cx) (pins : List (Addr × Obj)) (σ : St) (tg : Expr) (R : It → Hp → Prop) (itv : Value) (s2 : Shared) : Prop :=
  ∃ (it : Addr) (fp : List Addr) (tn : Nat → Heap → Prop) (J : It) (H' : Hp), itv = .ref it ∧ Inv X pins σ H' s2 ∧ Turn X.prog X.w X.K tg J fp it tn ∧ tn 0 s2.heap ∧ (∀ b ∈ fp, FpOk X pins H' b) ∧ R J H'
def PI (X : Cx) (tg iter : Expr) (wi : TI) : Prop :=
  ∀ (pins : List (Addr × Obj)) (s : Shared) (σ : St) (H : Hp) (R : It → Hp → Prop), Inv X pins σ H s → wi σ H R →
    wpAny (model X.prog X.w) X.A (eval iter X.env) (fun v s1 => wpAny (model X.prog X.w) X.A (pyIter v) (PIE X pins σ tg R) X.xe s1) X.xe s

/-- the step ahead of the store is nothing for an iterator that keeps no tuple -/
theorem go_of {M : Model} {A : Around} {E : Value → Shared → Prop} {s : Shared} {tg : Expr} {it : Addr} {u : Value} {o : Obj} {n : String} {vs : Array Value} {Q : Unit → Shared → Prop} (ho : s.heap.get? it = some o) (hc : o.cls = .type n) (hd : o.data = .fields vs)
    (hn : ["enumerate", "zip", "dict_itemiterator", "dict_reverseitemiterator", "odict_iterator", "itertools.zip_longest", "itertools.pairwise"].contains n = false) (hQ : Q () s) : wpAny M A (letOwnedTupleGo tg (.ref it) u) Q E s := by
  unfold letOwnedTupleGo
  cases tg <;> first
    | exact wpAny_pure hQ
    | (cases u <;> first
        | exact wpAny_pure hQ
        | (refine wpAny_bind (wpAny_load ho ?_)
           rw [hc, hd]
           show wpAny M A (if (["enumerate", "zip", "dict_itemiterator", "dict_reverseitemiterator", "odict_iterator", "itertools.zip_longest", "itertools.pairwise"].contains n && vs[0]? == some (rawInt _)) = true then _ else _) Q E s
           rw [if_neg (by intro h; rw [hn, Bool.false_and] at h; cases h)]
           exact wpAny_pure hQ))

/-- the list at a, as it stands at each turn (a loop may append to it) -/
def Itl (K : PySem.W.Frag) (a : Addr) : It :=
  ⟨fun i H => ∃ xs x, SqL K H a xs ∧ xs[i]? = some x, fun i H x H' => H' = H ∧ ∀ xs, SqL K H a xs → xs[i]? = some x, fun i H => ∃ xs, SqL K H a xs ∧ xs.length ≤ i⟩
def Itt (K : PySem.W.Frag) (a : Addr) : It :=
  ⟨fun i H => ∃ xs x, SqT K H a xs ∧ xs[i]? = some x, fun i H x H' => H' = H ∧ ∀ xs, SqT K H a xs → xs[i]? = some x, fun i H => ∃ xs, SqT K H a xs ∧ xs.length ≤ i⟩
/-- lo, lo + 1, .. (n of them) -/
def Itr (lo : Int) (n : Nat) : It := ⟨fun i _ => i < n, fun i H x H' => H' = H ∧ x = .int (lo + i), fun i _ => n ≤ i⟩
theorem turn_list {P : Program} {w : World} {K : PySem.W.Frag} {tg : Expr} (a it : Addr) : Turn P w K tg (Itl K a) [it] it (fun i h => h.IsListIter it a i) where
  mem := by simp
  obj := fun i h st b hb => by
    have e : b = it := by simpa using hb
    subst e
    obtain ⟨o, e, c, d⟩ := st
    exact ⟨o, e, fun v z => by rw [d] at z; cases z⟩
  keep := fun i h h' st k => st.at fun o e => k it (by simp) o e
  item := by
    intro X hP hw hK hc i pins s σ H E I hf st hg
    subst hP hw hK
    obtain ⟨xs, x, hq, hx⟩ := hg
    obtain ⟨its, rv, p, hz⟩ := I.list hq
    obtain ⟨u, hu, ru⟩ := rv.get hx
    obtain ⟨f0, f1, f2, f3, f4, f5⟩ := hf it (by simp)
    refine wpAny_pyNext_list_item st p.isList (x := u) (by simpa using hu) fun h' st' sb => ?_
    have I1 : Inv X pins σ H { s with heap := h' } := I.turned (t' := s.toks) (fun b o hb e => (sb.2 b hb).trans e) f0 f1 f3 f4 f5
    obtain ⟨o, e, c, d⟩ := id st'
    exact ⟨u, rfl, go_of (s := { s with heap := h' }) e c d (by decide) ⟨x, H, I1, ru, ⟨rfl, fun ys hy => by rw [I.list_inj hy hq]; exact hx⟩, st', fun b hb => (hf b hb).1⟩⟩
  done := by
    intro X hP hw hK hc i pins s σ H E I hf st hg
    subst hP hw hK
    obtain ⟨xs, hq, hx⟩ := hg
    obtain ⟨its, rv, p, hz⟩ := I.list hq
    obtain ⟨f0, f1, f2, f3, f4, f5⟩ := hf it (by simp)
    have hl := rv.length
    exact wpAny_pyNext_list_end (I.ok.hd hc) st p.isList (by simp; omega) fun h' eb => ⟨rfl, I.turned (t' := s.toks) (fun b o hb e => eb b o hb e) f0 f1 f3 f4 f5⟩
  self := fun _ _ _ _ _ st h => wpAny_pyIter_listiter st h
theorem turn_tuple {P : Program} {w : World} {K : PySem.W.Frag} {tg : Expr} (a it : Addr) : Turn P w K tg (Itt K a) [it] it (fun i h => h.IsTupleIter it a i) where
  mem := by simp
  obj := fun i h st b hb => by
    have e : b = it := by simpa using hb
    subst e
    obtain ⟨o, e, c, d⟩ := st
    exact ⟨o, e, fun v z => by rw [d] at z; cases z⟩
  keep := fun i h h' st k => st.at fun o e => k it (by simp) o e
  item := by
    intro X hP hw hK hc i pins s σ H E I hf st hg
    subst hP hw hK
    obtain ⟨xs, x, hq, hx⟩ := hg
    obtain ⟨its, rv, p, hz⟩ := I.tuple hq
    obtain ⟨u, hu, ru⟩ := rv.get hx
    obtain ⟨f0, f1, f2, f3, f4, f5⟩ := hf it (by simp)
    refine wpAny_pyNext_tuple_item st (show s.heap.IsTuple a its.toArray from p) (x := u) (by simpa using hu) fun h' st' sb => ?_
    have I1 : Inv X pins σ H { s with heap := h' } := I.turned (t' := s.toks) (fun b o hb e => (sb.2 b hb).trans e) f0 f1 f3 f4 f5
    obtain ⟨o, e, c, d⟩ := id st'
    exact ⟨u, rfl, go_of (s := { s with heap := h' }) e c d (by decide) ⟨x, H, I1, ru, ⟨rfl, fun ys hy => by rw [I.tuple_inj hy hq]; exact hx⟩, st', fun b hb => (hf b hb).1⟩⟩
  done := by
    intro X hP hw hK hc i pins s σ H E I hf st hg
    subst hP hw hK
    obtain ⟨xs, hq, hx⟩ := hg
    obtain ⟨its, rv, p, hz⟩ := I.tuple hq
    obtain ⟨f0, f1, f2, f3, f4, f5⟩ := hf it (by simp)
    have hl := rv.length
    exact wpAny_pyNext_tuple_end (I.ok.hd hc) st (show s.heap.IsTuple a its.toArray from p) (by simp; omega) fun h' eb => ⟨rfl, I.turned (t' := s.toks) (fun b o hb e => eb b o hb e) f0 f1 f3 f4 f5⟩
  self := fun _ _ _ _ _ st h => wpAny_pyIter_tupleiter st h
theorem turn_range {P : Program} {w : World} {K : PySem.W.Frag} {tg : Expr} (it : Addr) (lo : Int) (n : Nat) : Turn P w K tg (Itr lo n) [it] it (fun i h => IsRangeIter h it (lo + (i : Nat) * 1) ((n : Int) - (i : Nat)) 1) where
  mem := by simp
  obj := fun i h st b hb => by
    have e : b = it := by simpa using hb
    subst e
    exact ⟨_, st, fun v z => by
      have z' : Data.fields _ = Data.cell v := z
      cases z'⟩
  keep := fun i h h' st k => k it (by simp) _ st
  item := by
    intro X hP hw hK hc i pins s σ H E I hf st hg
    subst hP hw hK
    obtain ⟨f0, f1, f2, f3, f4, f5⟩ := hf it (by simp)
    have W := Walks.range (prog := X.prog) (w := X.w) (I.ok.hd hc) it lo 1 n
    refine W.item i s _ _ hg st fun v h' tk hv st' kk => ?_
    obtain ⟨t, rfl⟩ := hv
    have I1 : Inv X pins σ H { s with heap := h', toks := tk } := I.turned (fun b o hb e => kk b o (by simpa using hb) e) f0 f1 f3 f4 f5
    refine ⟨_, rfl, go_of (s := { s with heap := h', toks := tk }) (n := "range_iterator") st' rfl rfl (by decide) ⟨.int (lo + i), H, I1, ⟨t, ?_⟩, ⟨rfl, rfl⟩, st', fun b hb => (hf b hb).1⟩⟩
    rw [Int.mul_one]
  done := by
    intro X hP hw hK hc i pins s σ H E I hf st hg
    subst hP hw hK
    obtain ⟨f0, f1, f2, f3, f4, f5⟩ := hf it (by simp)
    exact wpAny_pyNext_range_end (I.ok.hd hc) st (by have : n ≤ i := hg; omega) fun h' eb => ⟨rfl, I.turned (t' := s.toks) (fun b o hb e => eb b o hb e) f0 f1 f3 f4 f5⟩
  self := fun _ _ _ _ _ st h => wpAny_pyIter_rangeiter st h
end L2

namespace L2
open PySem PySem.Spec PyProof.Rows
section
variable {X : Cx} {tg : Expr}
/-- a range object just made, walked -/
theorem range_it {pins : List (Addr × Obj)} {σ : St} {H : Hp} {s : Shared} {R : It → Hp → Prop} {E : Value → Shared → Prop} {lo hi : Int} {t u v : Tok} {tk : Nat} (I : Inv X pins σ H s) (h1 : -(2 ^ 62) ≤ lo) (h2 : lo < 2 ^ 62) (h3 : -(2 ^ 62) ≤ hi) (h4 : hi < 2 ^ 62)
    (q : R (Itr lo (hi - lo).toNat) H) : wpAny (model X.prog X.w) X.A (pyIter (.ref s.heap.objs.size)) (PIE X pins σ tg R) E { s with heap := s.heap.push { cls := .type "range", data := .fields #[.int lo t, .int hi u, .int 1 v] }, toks := tk } := by
  refine wpAny_pyIter_range (IsRange.new ..) (small_one h1 h2 h3 h4) ?_
  have I1 : Inv X pins σ H { s with heap := s.heap.push { cls := .type "range", data := .fields #[.int lo t, .int hi u, .int 1 v] }, toks := tk } := I.kept fun b o e => Heap.get?_push_of_some _ e
  refine ⟨(s.heap.push { cls := .type "range", data := .fields #[.int lo t, .int hi u, .int 1 v] }).objs.size, [(s.heap.push { cls := .type "range", data := .fields #[.int lo t, .int hi u, .int 1 v] }).objs.size], _, _, H, rfl,
    I1.kept (t' := tk) fun b o e => Heap.get?_push_of_some _ e, turn_range _ lo (hi - lo).toNat, ?_, fun b hb => ?_, q⟩
  · have e1 : lo + ((0 : Nat) : Int) * 1 = lo := by simp
    have e2 : (((hi - lo).toNat : Nat) : Int) - ((0 : Nat) : Int) = Builtin.Range.rangeSize lo hi 1 := by rw [rangeSize_one]; split <;> omega
    show IsRangeIter _ _ (lo + ((0 : Nat) : Int) * 1) ((((hi - lo).toNat : Nat) : Int) - ((0 : Nat) : Int)) 1
    rw [e1, e2]
    exact Heap.get?_push_size _ rfl
  · have e : b = (s.heap.push { cls := .type "range", data := .fields #[.int lo t, .int hi u, .int 1 v] }).objs.size := by simpa using hb
    subst e
    exact I1.fpOk (Nat.le_refl _) (I1.hok.fresh (Nat.le_refl _))
/-! ### for -/
/-- W: the invariant by the turn and a measure; N: what the body is to reach -/
def tFor (wi : TI) (g : TG) (tb : TS) : TS := fun D σ H => wi σ H fun J H1 => ∃ W : Nat → Nat → St → Hp → Prop, (∃ m, W 0 m σ H1) ∧ ∀ i m σ H, W i m σ H →
  (J.stop i H ∧ D.nx σ H) ∨ (J.go i H ∧ ∃ N : St → Hp → Prop, (∀ σ' H', N σ' H' → ∃ m', m' < m ∧ W (i + 1) m' σ' H') ∧ ∀ x H', J.yld i H x H' → g x σ H' fun σ2 H2 => tb { D with nx := N, ct := N, bk := D.nx } σ2 H2)
/-- the records at fp as they stand -/
def pinsAt (fp : List Addr) (h : Heap) : List (Addr × Obj) := fp.filterMap fun b => (h.get? b).map fun o => (b, o)
theorem mem_pinsAt {fp : List Addr} {h : Heap} {b : Addr} {o : Obj} (hb : b ∈ fp) (e : h.get? b = some o) : (b, o) ∈ pinsAt fp h := List.mem_filterMap.mpr ⟨b, hb, by rw [e]; rfl⟩
theorem of_pinsAt {fp : List Addr} {h : Heap} {p : Addr × Obj} (hp : p ∈ pinsAt fp h) : p.1 ∈ fp ∧ h.get? p.1 = some p.2 := by
  obtain ⟨b, hb, e⟩ := List.mem_filterMap.mp hp
  cases q : h.get? b with
  | none => rw [q] at e; cases e
  | some o =>
    rw [q] at e
    have e' : (b, o) = p := Option.some.inj e
    subst e'
    exact ⟨hb, q⟩
theorem Inv.pinned {pins : List (Addr × Obj)} {σ : St} {H : Hp} {s : Shared} {fp : List Addr} (I : Inv X pins σ H s) (hf : ∀ b ∈ fp, FpOk X pins H b) (ho : ∀ b ∈ fp, ∃ o, s.heap.get? b = some o ∧ ∀ v, o.data ≠ .cell v) : Inv X (pins ++ pinsAt fp s.heap) σ H s :=
  I.pins_of fun p hp => (List.mem_append.mp hp).elim (fun z => I.pin p (List.mem_append_right _ z)) fun z => by
    obtain ⟨hb, e⟩ := of_pinsAt z
    obtain ⟨f0, f1, f2, _⟩ := hf p.1 hb
    obtain ⟨o, e', d⟩ := ho p.1 hb
    rw [e] at e'; cases e'
    exact ⟨e, f0, f1, f2, d⟩
theorem Inv.unpinned {pins pl : List (Addr × Obj)} {σ : St} {H : Hp} {s : Shared} (I : Inv X (pins ++ pl) σ H s) : Inv X pins σ H s := I.pins_of fun p hp => I.pin p (List.mem_append_right _ (List.mem_append_left _ hp))
theorem ps_for {iter : Expr} {body : List Stmt} {wi : TI} {g : TG} {tb : TS} {pos : Pos} (hp : PassesOwn (model X.prog X.w) X.A X.env X.xe) (hc : X.calm = true) (hi : PI X tg iter wi) (hg : PG X tg g) (hb : PSs X body tb)
    (hs : ∀ x, foldedSetIterable iter X.env x = pure x := by intro _; rfl) : PS X (.For tg iter body [] pos) (tFor wi g tb) := by
  intro pins s σ H D I h
  refine wpAny_For (thn (hi pins s σ H _ I h) fun v s1 h1 => thn h1 fun itv s2 h2 => ?_) hs
  obtain ⟨it, fp, tn, J, H2, e, I2, T, st2, f2, W, ⟨m0, w0⟩, turn⟩ := h2
  subst e
  -- what stays true of the iterator's objects through the loop
  have stat : ∀ {H' : Hp}, (∀ b ∈ fp, H' b = none) → ∀ b ∈ fp, FpOk X pins H' b := fun hn b hb => ⟨hn b hb, (f2 b hb).2⟩
  refine codeAny_forLoop_any (fun n s' => ∃ i σ' H', Inv X pins σ' H' s' ∧ tn i s'.heap ∧ (∀ b ∈ fp, H' b = none) ∧ W i n σ' H') ?_ m0 ⟨0, σ, H2, I2, st2, fun b hb => (f2 b hb).1, w0⟩
  rintro n s3 ⟨i, σ3, H3, I3, st3, fr3, w3⟩
  rcases turn i n σ3 H3 w3 with ⟨stop, qn⟩ | ⟨go, N, hN, step⟩
  · refine wpAny_passesOwn hp (thn (T.done X rfl rfl rfl hc i pins s3 σ3 H3 X.xe I3 (stat fr3) st3 stop) fun r s4 ⟨hr, I4⟩ => ?_)
    subst hr
    exact wpAny_execs_nil ⟨σ3, H3, I4, qn⟩
  · refine wpAny_passesOwn hp (thn (T.item X rfl rfl rfl hc i pins s3 σ3 H3 X.xe I3 (stat fr3) st3 go) fun r s4 ⟨u, hr, h4⟩ => ?_)
    subst hr
    refine wpAny_passesOwn hp (thn h4 fun _ s5 ⟨x, H5, I5, r5, y5, st5, fr5⟩ => ?_)
    have I5' := I5.pinned (stat fr5) (T.obj _ _ st5)
    refine wpAny_passesOwn hp (thn (hg _ s5 σ3 H5 x u _ I5' r5 (step x H5 y5)) fun _ s6 ⟨σ6, H6, I6, q6⟩ => ?_)
    refine wpAny_passesOwn hp (thn (hb _ s6 σ6 H6 _ I6 q6) fun f s7 q7 => ?_)
    have again : ∀ {σ7 : St} {H7 : Hp}, Inv X (pins ++ pinsAt fp s5.heap) σ7 H7 s7 → N σ7 H7 → ∃ m, m < n ∧ ∃ i σ' H', Inv X pins σ' H' s7 ∧ tn i s7.heap ∧ (∀ b ∈ fp, H' b = none) ∧ W i m σ' H' := fun {σ7 H7} I7 n7 => by
      obtain ⟨m', hm, w7⟩ := hN σ7 H7 n7
      refine ⟨m', hm, i + 1, σ7, H7, I7.unpinned, T.keep _ _ _ st5 fun b hb o e => (I7.pin (b, o) (List.mem_append_right _ (List.mem_append_right _ (mem_pinsAt hb e)))).1, fun b hb => ?_, w7⟩
      obtain ⟨o, e, d⟩ := T.obj _ _ st5 b hb
      exact (I7.pin (b, o) (List.mem_append_right _ (List.mem_append_right _ (mem_pinsAt hb e)))).2.1
    cases f with
    | next => obtain ⟨σ7, H7, I7, n7⟩ := q7; exact again I7 n7
    | cont => obtain ⟨σ7, H7, I7, n7⟩ := q7; exact again I7 n7
    | brk => obtain ⟨σ7, H7, I7, q7⟩ := q7; exact ⟨σ7, H7, I7.unpinned, q7⟩
    | ret v => obtain ⟨x7, σ7, H7, I7, r7, q7⟩ := q7; exact ⟨x7, σ7, H7, I7.unpinned, r7, q7⟩
end

/-! ### the forms one uses -/
/-- over a list that the body leaves as it is -/
theorem for_list {K : PySem.W.Frag} {a : Addr} {xs : List V} {g : TG} {tb : TS} {D : Ends} {σ : St} {H : Hp} (Pv : Nat → St → Hp → Prop) (h0 : Pv 0 σ H) (hl : ∀ i σ H, i ≤ xs.length → Pv i σ H → SqL K H a xs)
    (hs : ∀ i x σ H, xs[i]? = some x → Pv i σ H → g x σ H fun σ2 H2 => tb { D with nx := Pv (i + 1), ct := Pv (i + 1), bk := D.nx } σ2 H2) (hd : ∀ σ H, Pv xs.length σ H → D.nx σ H) :
    ∃ W : Nat → Nat → St → Hp → Prop, (∃ m, W 0 m σ H) ∧ ∀ i m σ H, W i m σ H →
      ((Itl K a).stop i H ∧ D.nx σ H) ∨ ((Itl K a).go i H ∧ ∃ N : St → Hp → Prop, (∀ σ' H', N σ' H' → ∃ m', m' < m ∧ W (i + 1) m' σ' H') ∧ ∀ x H', (Itl K a).yld i H x H' → g x σ H' fun σ2 H2 => tb { D with nx := N, ct := N, bk := D.nx } σ2 H2) := by
  refine ⟨fun i m σ H => m = xs.length - i ∧ i ≤ xs.length ∧ Pv i σ H, ⟨xs.length, by simp, Nat.zero_le _, h0⟩, ?_⟩
  rintro i m σ H ⟨rfl, hi, p⟩
  have q := hl i σ H hi p
  by_cases hlt : i < xs.length
  · refine .inr ⟨⟨xs, xs[i], q, by simp [hlt]⟩, Pv (i + 1), fun σ' H' p' => ⟨xs.length - (i + 1), by omega, rfl, hlt, p'⟩, fun x H' y => ?_⟩
    obtain ⟨e, y⟩ := y
    subst e
    exact hs i x σ _ (y xs q) p
  · have e : i = xs.length := by omega
    subst e
    exact .inl ⟨⟨xs, q, Nat.le_refl _⟩, hd σ H p⟩
theorem for_range {lo : Int} {n : Nat} {g : TG} {tb : TS} {D : Ends} {σ : St} {H : Hp} (Pv : Nat → St → Hp → Prop) (h0 : Pv 0 σ H)
    (hs : ∀ i σ H, i < n → Pv i σ H → g (.int (lo + i)) σ H fun σ2 H2 => tb { D with nx := Pv (i + 1), ct := Pv (i + 1), bk := D.nx } σ2 H2) (hd : ∀ σ H, Pv n σ H → D.nx σ H) :
    ∃ W : Nat → Nat → St → Hp → Prop, (∃ m, W 0 m σ H) ∧ ∀ i m σ H, W i m σ H →
      ((Itr lo n).stop i H ∧ D.nx σ H) ∨ ((Itr lo n).go i H ∧ ∃ N : St → Hp → Prop, (∀ σ' H', N σ' H' → ∃ m', m' < m ∧ W (i + 1) m' σ' H') ∧ ∀ x H', (Itr lo n).yld i H x H' → g x σ H' fun σ2 H2 => tb { D with nx := N, ct := N, bk := D.nx } σ2 H2) := by
  refine ⟨fun i m σ H => m = n - i ∧ i ≤ n ∧ Pv i σ H, ⟨n, by simp, Nat.zero_le _, h0⟩, ?_⟩
  rintro i m σ H ⟨rfl, hi, p⟩
  by_cases hlt : i < n
  · refine .inr ⟨hlt, Pv (i + 1), fun σ' H' p' => ⟨n - (i + 1), by omega, rfl, hlt, p'⟩, fun x H' y => ?_⟩
    obtain ⟨e, y⟩ := y
    subst e y
    exact hs i σ _ hlt p
  · have e : i = n := by omega
    subst e
    exact .inl ⟨Nat.le_refl _, hd σ H p⟩
end L2

namespace L2
open PySem PySem.Spec PyProof.Rows

abbrev R2 := V → V → Hp → VK → Prop
/-- a two-place operation on values: f is binaryOp op, inplaceOp op or compareOp op -/
def OpR (X : Cx) (f : Value → Value → Sem Value) (r : R2) : Prop :=
  ∀ (pins : List (Addr × Obj)) (s : Shared) (σ : St) (H : Hp) (x y : V) (v u : Value) (Q : VK), Inv X pins σ H s → RelV x v → RelV y u → r x y H Q →
    wpAny (model X.prog X.w) X.A (f v u) (EP X pins σ Q) X.xe s
/-- a one-place operation -/
def UnR (X : Cx) (f : Value → Sem Value) (r : V → Hp → VK → Prop) : Prop :=
  ∀ (pins : List (Addr × Obj)) (s : Shared) (σ : St) (H : Hp) (x : V) (v : Value) (Q : VK), Inv X pins σ H s → RelV x v → r x H Q →
    wpAny (model X.prog X.w) X.A (f v) (EP X pins σ Q) X.xe s
/-- a call of a value that is known (a builtin, a type) with values -/
def CallR (X : Cx) (f : Value) (r : List V → Hp → VK → Prop) : Prop :=
  ∀ (pins : List (Addr × Obj)) (s : Shared) (σ : St) (H : Hp) (xs : List V) (us : List Value) (Q : VK), Inv X pins σ H s → Vals xs us → r xs H Q →
    wpAny (model X.prog X.w) X.A (call f us) (EP X pins σ Q) X.xe s
/-- a value's truth -/
def TruR (X : Cx) (r : V → Hp → (Bool → Hp → Prop) → Prop) : Prop :=
  ∀ (pins : List (Addr × Obj)) (s : Shared) (σ : St) (H : Hp) (x : V) (v : Value) (Q : Bool → Hp → Prop), Inv X pins σ H s → RelV x v → r x H Q →
    wpAny (model X.prog X.w) X.A (truthy v) (TP X pins σ Q) X.xe s

def tOp (r : R2) (ta tb : TE) : TE := fun σ H Q => ta σ H fun x H1 => tb σ H1 fun y H2 => r x y H2 Q
def tUn (r : V → Hp → VK → Prop) (ta : TE) : TE := fun σ H Q => ta σ H fun x H1 => r x H1 Q
/-- ints in, under C, and a value out -/
def rI (C : Int → Int → Prop) (g : Int → Int → V) : R2 := fun x y H Q => ∃ i j, x = .int i ∧ y = .int j ∧ C i j ∧ Q (g i j) H
def rI0 (g : Int → Int → V) : R2 := fun x y H Q => ∃ i j, x = .int i ∧ y = .int j ∧ Q (g i j) H
def rU (g : Int → V) : V → Hp → VK → Prop := fun x H Q => ∃ i, x = .int i ∧ Q (g i) H

section
variable {X : Cx} {a b c : Expr} {ta tb tc : TE} {pos : Pos}

theorem binT (ha : PE X a ta) (hb : PE X b tb) {pins : List (Addr × Obj)} {s : Shared} {σ : St} {H : Hp} {R : V → V → Hp → Prop} (I : Inv X pins σ H s)
    (h : ta σ H fun x H1 => tb σ H1 fun y H2 => R x y H2) {Q : Value → Shared → Prop} {f : Value → Value → Sem Value}
    (hf : ∀ v u s2 x y H2, Inv X pins σ H2 s2 → RelV x v → RelV y u → R x y H2 → wpAny (model X.prog X.w) X.A (f v u) Q X.xe s2) :
    wpAny (model X.prog X.w) X.A (eval a X.env) (fun v s₁ => wpAny (model X.prog X.w) X.A (eval b X.env) (fun u s₂ => wpAny (model X.prog X.w) X.A (f v u) Q X.xe s₂) X.xe s₁) X.xe s := by
  refine thn (ha pins s σ H _ I h) fun v s1 ⟨x, H1, I1, r1, q1⟩ => ?_
  refine thn (hb pins s1 σ H1 _ I1 q1) fun u s2 ⟨y, H2, I2, r2, q2⟩ => ?_
  exact hf v u s2 x y H2 I2 r1 r2 q2

theorem pe_op {op : Operator} {r : R2} (ho : OpR X (binaryOp op) r) (ha : PE X a ta) (hb : PE X b tb) : PE X (.BinOp a op b pos) (tOp r ta tb) := by
  intro pins s σ H Q I h
  exact wpAny_BinOp (binT ha hb I h fun v u s2 x y H2 I2 rx ry q => ho pins s2 σ H2 x y v u Q I2 rx ry q)
theorem pe_un {op : UnaryOp} {r : V → Hp → VK → Prop} (ho : UnR X (unaryOp op) r) (ha : PE X a ta) : PE X (.UnaryOp op a pos) (tUn r ta) := by
  intro pins s σ H Q I h
  exact UnaryOp_ (thn (ha pins s σ H _ I h) fun v s1 ⟨x, H1, I1, r1, q1⟩ => ho pins s1 σ H1 x v Q I1 r1 q1)
/-! ### ints -/
theorem opI {f : Value → Value → Sem Value} {C : Int → Int → Prop} {g : Int → Int → Int}
    (rule : ∀ (i j : Int) (t u : Tok) (s : Shared) (Q : Value → Shared → Prop) (E : Value → Shared → Prop), C i j → Q (.int (g i j) s.toks) { s with toks := s.toks + 1 } → wpAny (model X.prog X.w) X.A (f (.int i t) (.int j u)) Q E s) :
    OpR X f (rI C fun i j => .int (g i j)) := by
  intro pins s σ H x y v u Q I rx ry h
  obtain ⟨i, j, rfl, rfl, hc, q⟩ := h
  obtain ⟨t, rfl⟩ := rx
  obtain ⟨t', rfl⟩ := ry
  exact rule i j t t' s _ _ hc ⟨.int (g i j), H, I.tok _, ⟨_, rfl⟩, q⟩
theorem opI0 {f : Value → Value → Sem Value} {g : Int → Int → Int}
    (rule : ∀ (i j : Int) (t u : Tok) (s : Shared) (Q : Value → Shared → Prop) (E : Value → Shared → Prop), Q (.int (g i j) s.toks) { s with toks := s.toks + 1 } → wpAny (model X.prog X.w) X.A (f (.int i t) (.int j u)) Q E s) :
    OpR X f (rI0 fun i j => .int (g i j)) := by
  intro pins s σ H x y v u Q I rx ry h
  obtain ⟨i, j, rfl, rfl, q⟩ := h
  obtain ⟨t, rfl⟩ := rx
  obtain ⟨t', rfl⟩ := ry
  exact rule i j t t' s _ _ ⟨.int (g i j), H, I.tok _, ⟨_, rfl⟩, q⟩
theorem opB0 {f : Value → Value → Sem Value} {g : Int → Int → Bool}
    (rule : ∀ (i j : Int) (t u : Tok) (s : Shared) (Q : Value → Shared → Prop) (E : Value → Shared → Prop), Q (.bool (g i j)) s → wpAny (model X.prog X.w) X.A (f (.int i t) (.int j u)) Q E s) :
    OpR X f (rI0 fun i j => .bl (g i j)) := by
  intro pins s σ H x y v u Q I rx ry h
  obtain ⟨i, j, rfl, rfl, q⟩ := h
  obtain ⟨t, rfl⟩ := rx
  obtain ⟨t', rfl⟩ := ry
  exact rule i j t t' s _ _ ⟨.bl (g i j), H, I, rfl, q⟩

def CPow (i j : Int) : Prop := 0 ≤ j ∧ j ≤ 1000000 ∧ i.natAbs < 2 ^ 64
def CMul (i j : Int) : Prop := (-(2 ^ 64) < i ∧ i < 2 ^ 64) ∨ (-(2 ^ 64) < j ∧ j < 2 ^ 64)
theorem CMul.ok {i j : Int} (h : CMul i j) : IntMulOk i j := by
  rcases h with ⟨h1, h2⟩ | ⟨h1, h2⟩
  · exact .of_left (intBits_le_64 h1 h2)
  · exact .of_right (intBits_le_64 h1 h2)
theorem op_add : OpR X (binaryOp .Add) (rI0 fun i j => .int (i + j)) := opI0 fun _ _ _ _ _ _ _ q => add_int q
theorem op_sub : OpR X (binaryOp .Sub) (rI0 fun i j => .int (i - j)) := opI0 fun _ _ _ _ _ _ _ q => sub_int q
theorem op_modN : OpR X (binaryOp .Mod) (rI (fun _ j => j ≠ 0) fun i j => .int (i.fmod j)) := opI fun _ _ _ _ _ _ _ hc q => mod_int' hc q
theorem op_pow : OpR X (binaryOp .Pow) (rI CPow fun i j => .int (i ^ j.toNat)) := opI fun _ _ _ _ _ _ _ hc q => pow_int_small hc.1 hc.2.1 hc.2.2 q
theorem unI {f : Value → Sem Value} {g : Int → Int}
    (rule : ∀ (i : Int) (t : Tok) (s : Shared) (Q : Value → Shared → Prop) (E : Value → Shared → Prop), Q (.int (g i) s.toks) { s with toks := s.toks + 1 } → wpAny (model X.prog X.w) X.A (f (.int i t)) Q E s) :
    UnR X f (rU fun i => .int (g i)) := by
  intro pins s σ H x v Q I rx h
  obtain ⟨i, rfl, q⟩ := h
  obtain ⟨t, rfl⟩ := rx
  exact rule i t s _ _ ⟨.int (g i), H, I.tok _, ⟨_, rfl⟩, q⟩
theorem un_neg : UnR X (unaryOp .USub) (rU fun i => .int (-i)) := unI fun _ _ _ _ _ q => neg_int q
/-! ### bools among ints: n += (a < b) -/
end

/-! ### comparisons -/
/-- the scalars that == tells apart as data does -/
def scal : V → V → Bool
  | .non, .non => true | .non, .int _ => true | .int _, .non => true | .non, .bl _ => true | .bl _, .non => true | .non, .str _ => true | .str _, .non => true
  | .int _, .int _ => true | .bl _, .bl _ => true | .str _, .str _ => true | .byt _, .byt _ => true
  | .int _, .str _ => true | .str _, .int _ => true | .bl _, .str _ => true | .str _, .bl _ => true
  | _, _ => false
def rEq : R2 := fun x y H Q => scal x y = true ∧ Q (.bl (decide (x = y))) H
def rNe : R2 := fun x y H Q => scal x y = true ∧ Q (.bl (!decide (x = y))) H

theorem dec_int {i j : Int} : decide (V.int i = V.int j) = (i == j) := by
  rw [Bool.eq_iff_iff]
  simp
theorem dec_bl {i j : Bool} : decide (V.bl i = V.bl j) = (i == j) := by
  rw [Bool.eq_iff_iff]
  simp
theorem dec_str {i j : Str} : decide (V.str i = V.str j) = (i == j) := by
  rw [Bool.eq_iff_iff]
  simp
theorem dec_byt {i j : Array UInt8} : decide (V.byt i = V.byt j) = (i.toList == j.toList) := by
  rw [Bool.eq_iff_iff]
  cases i
  cases j
  simp

section
variable {X : Cx} {a b c : Expr} {ta tb tc : TE} {pos : Pos}
theorem fin_bl {pins : List (Addr × Obj)} {σ : St} {H : Hp} {s : Shared} {Q : VK} {k k' : Bool} (I : Inv X pins σ H s) (q : Q (.bl k) H) (e : k = k') : EP X pins σ Q (.bool k') s := by
  subst e
  exact ⟨.bl k, H, I, rfl, q⟩
theorem op_eq : OpR X (compareOp .Eq) rEq := by
  intro pins s σ H x y v u Q I rx ry h
  obtain ⟨hs, q⟩ := h
  cases x with
  | non =>
    cases rx
    cases y with
    | non => cases ry; exact PySem.EqNone.eq_none_none (fin_bl I q (by simp))
    | bl j => cases ry; exact PySem.EqNone.eq_none_bool (fin_bl I q (by simp))
    | int j => obtain ⟨t', rfl⟩ := ry; exact PySem.EqNone.eq_none_int (fin_bl I q (by simp))
    | str j => obtain ⟨t', rfl⟩ := ry; exact PySem.EqNone.eq_none_str (fin_bl I q (by simp))
    | _ => exact absurd (show false = true from hs) Bool.false_ne_true
  | bl i =>
    cases rx
    cases y with
    | non => cases ry; exact PySem.EqNone.eq_bool_none (fin_bl I q (by simp))
    | bl j => cases ry; exact eq_bool (fin_bl I q dec_bl)
    | str j => obtain ⟨t', rfl⟩ := ry; exact PySem.EqMixed.eq_bool_str (fin_bl I q (by simp))
    | _ => exact absurd (show false = true from hs) Bool.false_ne_true
  | int i =>
    obtain ⟨t, rfl⟩ := rx
    cases y with
    | non => cases ry; exact PySem.EqNone.eq_int_none (fin_bl I q (by simp))
    | int j => obtain ⟨t', rfl⟩ := ry; exact eq_int (fin_bl I q dec_int)
    | str j => obtain ⟨t', rfl⟩ := ry; exact PySem.EqMixed.eq_int_str (fin_bl I q (by simp))
    | _ => exact absurd (show false = true from hs) Bool.false_ne_true
  | str i =>
    obtain ⟨t, rfl⟩ := rx
    cases y with
    | non => cases ry; exact PySem.EqNone.eq_str_none (fin_bl I q (by simp))
    | bl j => cases ry; exact PySem.EqMixed.eq_str_bool (fin_bl I q (by simp))
    | int j => obtain ⟨t', rfl⟩ := ry; exact PySem.EqMixed.eq_str_int (fin_bl I q (by simp))
    | str j => obtain ⟨t', rfl⟩ := ry; exact eq_str (fin_bl I q dec_str)
    | _ => exact absurd (show false = true from hs) Bool.false_ne_true
  | byt i =>
    obtain ⟨t, rfl⟩ := rx
    cases y with
    | byt j => obtain ⟨t', rfl⟩ := ry; exact PySem.W.eq_bytes (fin_bl I q dec_byt)
    | _ => exact absurd (show false = true from hs) Bool.false_ne_true
  | _ => cases y <;> exact absurd (show false = true from hs) Bool.false_ne_true
theorem op_ne : OpR X (compareOp .NotEq) rNe := by
  intro pins s σ H x y v u Q I rx ry h
  obtain ⟨hs, q⟩ := h
  cases x with
  | non =>
    cases rx
    cases y with
    | non => cases ry; exact PySem.EqNone.ne_none_none (fin_bl I q (by simp))
    | bl j => cases ry; exact PySem.EqNone.ne_none_bool (fin_bl I q (by simp))
    | int j => obtain ⟨t', rfl⟩ := ry; exact PySem.EqNone.ne_none_int (fin_bl I q (by simp))
    | str j => obtain ⟨t', rfl⟩ := ry; exact PySem.EqNone.ne_none_str (fin_bl I q (by simp))
    | _ => exact absurd (show false = true from hs) Bool.false_ne_true
  | bl i =>
    cases rx
    cases y with
    | non => cases ry; exact PySem.EqNone.ne_bool_none (fin_bl I q (by simp))
    | bl j => cases ry; exact ne_bool (fin_bl I q (congrArg not dec_bl))
    | str j => obtain ⟨t', rfl⟩ := ry; exact PySem.EqMixed.ne_bool_str (fin_bl I q (by simp))
    | _ => exact absurd (show false = true from hs) Bool.false_ne_true
  | int i =>
    obtain ⟨t, rfl⟩ := rx
    cases y with
    | non => cases ry; exact PySem.EqNone.ne_int_none (fin_bl I q (by simp))
    | int j => obtain ⟨t', rfl⟩ := ry; exact ne_int (fin_bl I q (congrArg not dec_int))
    | str j => obtain ⟨t', rfl⟩ := ry; exact PySem.EqMixed.ne_int_str (fin_bl I q (by simp))
    | _ => exact absurd (show false = true from hs) Bool.false_ne_true
  | str i =>
    obtain ⟨t, rfl⟩ := rx
    cases y with
    | non => cases ry; exact PySem.EqNone.ne_str_none (fin_bl I q (by simp))
    | bl j => cases ry; exact PySem.EqMixed.ne_str_bool (fin_bl I q (by simp))
    | int j => obtain ⟨t', rfl⟩ := ry; exact PySem.EqMixed.ne_str_int (fin_bl I q (by simp))
    | str j => obtain ⟨t', rfl⟩ := ry; exact ne_str (fin_bl I q (congrArg not dec_str))
    | _ => exact absurd (show false = true from hs) Bool.false_ne_true
  | byt i =>
    obtain ⟨t, rfl⟩ := rx
    cases y with
    | byt j => obtain ⟨t', rfl⟩ := ry; exact PySem.W.ne_bytes (fin_bl I q (congrArg not dec_byt))
    | _ => exact absurd (show false = true from hs) Bool.false_ne_true
  | _ => cases y <;> exact absurd (show false = true from hs) Bool.false_ne_true

theorem op_lt : OpR X (compareOp .Lt) (rI0 fun i j => .bl (decide (i < j))) := opB0 fun _ _ _ _ _ _ _ q => lt_int q
theorem op_le : OpR X (compareOp .LtE) (rI0 fun i j => .bl (decide (i ≤ j))) := opB0 fun _ _ _ _ _ _ _ q => le_int q
theorem op_gt : OpR X (compareOp .Gt) (rI0 fun i j => .bl (decide (j < i))) := opB0 fun _ _ _ _ _ _ _ q => gt_int q
theorem op_notN : OpR X (compareOp .IsNot) (fun x y H Q => y = .non ∧ Q (.bl (!decide (x = .non))) H) := by
  intro pins s σ H x y v u Q I rx ry h
  obtain ⟨rfl, q⟩ := h
  cases ry
  refine isnot_none_gen (fin_bl I q ?_)
  cases x <;> first
    | (cases rx; rfl)
    | (obtain ⟨t, rfl⟩ := rx; rfl)

theorem nomark (b : Expr) {op : CmpOp} (h : op ≠ .In := by decide) (h2 : op ≠ .NotIn := by decide) : behindInMarks op b = false := by
  have e1 : (op == CmpOp.In) = false := by cases op <;> first | rfl | exact absurd rfl h
  have e2 : (op == CmpOp.NotIn) = false := by cases op <;> first | rfl | exact absurd rfl h2
  cases b <;> simp [behindInMarks, e1, e2]
/-- a comparison as a value; hm: nomark b, or (for in, not in) by with_unfolding_all rfl -/
theorem pe_cmpR {op : CmpOp} {r : R2} (ho : OpR X (compareOp op) r) (ha : PE X a ta) (hb : PE X b tb) (hm : behindInMarks op b = false) : PE X (.Compare a [op] [b] pos) (tOp r ta tb) := by
  intro pins s σ H Q I h
  exact wpAny_Compare1 (binT ha hb I h fun v u s2 x y H2 I2 rx ry q => ho pins s2 σ H2 x y v u Q I2 rx ry q) hm
/-! ### truth -/
/-- a value's truth by the abstract heap -/
def TruV (K : PySem.W.Frag) (x : V) (H : Hp) (k : Bool) : Prop :=
  match x with
  | .non => k = false
  | .bl b => k = b
  | .int i => k = (i != 0)
  | .str y => y.length ≤ sizeLine ∧ k = ((y.length : Int) != 0)
  | .byt y => y.size ≤ sizeLine ∧ k = ((y.size : Int) != 0)
  | .ref p => (∃ xs, SqL K H p xs ∧ k = !xs.isEmpty) ∨ (∃ xs, SqT K H p xs ∧ k = !xs.isEmpty) ∨ ∃ kvs, H p = some (.dK kvs) ∧ k = !kvs.isEmpty
  | _ => False
theorem isEmpty_kv {κ : Type} {kvs : List (κ × V)} {vs : List (κ × Value)} (r : KV kvs vs) : (!vs.isEmpty) = !kvs.isEmpty := by
  cases r <;> rfl
theorem isEmpty_of {xs : List V} {its : List Value} (r : Vals xs its) : (!its.toArray.isEmpty) = !xs.isEmpty := by
  cases r <;> simp
theorem line63 : (sizeLine : Nat) < 2 ^ 63 := by rw [sizeLine_eq]; decide
theorem tru_ok : TruR X (fun x H Q => ∃ k, TruV X.K x H k ∧ Q k H) := by
  intro pins s σ H x v Q I rx h
  obtain ⟨k, e, q⟩ := h
  have hl := line63
  have hs : sizeLine = 16777216 := sizeLine_eq
  cases x with
  | non =>
    cases rx
    have e' : k = false := e
    subst e'
    exact truthy_none ⟨H, I, q⟩
  | bl b =>
    cases rx
    have e' : k = b := e
    subst e'
    exact wpAny_truthy_bool ⟨H, I, q⟩
  | int i =>
    obtain ⟨t, rfl⟩ := rx
    have e' : k = (i != 0) := e
    subst e'
    exact PySem.P.truthy_int ⟨H, I, q⟩
  | str y =>
    obtain ⟨t, rfl⟩ := rx
    obtain ⟨hy, e'⟩ : y.length ≤ sizeLine ∧ k = ((y.length : Int) != 0) := e
    subst e'
    exact PySem.P.truthy_str (by omega) ⟨H, I.tok _, q⟩
  | byt y =>
    obtain ⟨t, rfl⟩ := rx
    obtain ⟨hy, e'⟩ : y.size ≤ sizeLine ∧ k = ((y.size : Int) != 0) := e
    subst e'
    exact PySem.W.truthy_bytes (by omega) ⟨H, I.tok _, q⟩
  | ref p =>
    cases rx
    have e' : (∃ xs, SqL X.K H p xs ∧ k = !xs.isEmpty) ∨ (∃ xs, SqT X.K H p xs ∧ k = !xs.isEmpty) ∨ ∃ kvs, H p = some (.dK kvs) ∧ k = !kvs.isEmpty := e
    rcases e' with ⟨xs, hx, e'⟩ | ⟨xs, hx, e'⟩ | ⟨kvs, hx, e'⟩
    · subst e'
      obtain ⟨its, r, pl, hz⟩ := I.list hx
      have hlen := r.length
      exact wpAny_truthy_list pl.isList (by simp only [List.size_toArray]; omega) ⟨H, I.tok _, by rw [isEmpty_of r]; exact q⟩
    · subst e'
      obtain ⟨its, r, pl, hz⟩ := I.tuple hx
      have hlen := r.length
      exact truthy_tuple pl (by simp only [List.size_toArray]; omega) ⟨H, I.tok _, by rw [isEmpty_of r]; exact q⟩
    · subst e'
      obtain ⟨hz, hS, vs, r, m⟩ : kvs.length ≤ sizeLine ∧ (p == sysModules) = false ∧ ∃ vs, KV kvs vs ∧ s.heap.DictOf (mixKind X.prog X.w) p vs := I.hok p _ hx
      have hlen : kvs.length = vs.length := Paired.length r
      exact wpAny_truthy_dict hS m (by omega) ⟨H, I.tok _, by rw [isEmpty_kv r]; exact q⟩
  | _ => exact (show False from e).elim
/-! ### strs and bytes -/
theorem op_add_str : OpR X (binaryOp .Add) (fun x y H Q => ∃ i j, x = .str i ∧ y = .str j ∧ i.length + j.length ≤ sizeLine ∧ Q (.str (i ++ j)) H) := by
  intro pins s σ H x y v u Q I rx ry h
  obtain ⟨i, j, rfl, rfl, hz, q⟩ := h
  obtain ⟨t, rfl⟩ := rx
  obtain ⟨t', rfl⟩ := ry
  exact add_str (fun t' tk => ⟨.str (i ++ j), H, I.tok _, ⟨_, rfl⟩, q⟩) hz
/-! ### scalar builtins, by CallR -/
theorem vals1 {x : V} {us : List Value} (r : Vals [x] us) : ∃ u, us = [u] ∧ RelV x u := by
  cases r with
  | cons r1 r2 => cases r2; exact ⟨_, rfl, r1⟩
theorem vals2 {x y : V} {us : List Value} (r : Vals [x, y] us) : ∃ u w', us = [u, w'] ∧ RelV x u ∧ RelV y w' := by
  cases r with
  | cons r1 r2 =>
    cases r2 with
    | cons r3 r4 => cases r4; exact ⟨_, _, rfl, r1, r3⟩
end
end L2

namespace L2
open PySem PySem.Spec PyProof.Rows

/-! ### an instance, its attributes a map -/
structure ObjM (h : Heap) (x dx C : Addr) (mA : Str → Option Value) : Prop where
  obj : h.get? x = some (PySem.W.instObj C dx)
  ns : h.Ns1 dx mA
  ne : dx ≠ x

theorem lookIn_ns {h : Heap} {dx : Addr} {mA : Str → Option Value} (n : h.Ns1 dx mA) : ∃ od, h.get? dx = some od ∧ ∀ name, PySem.W.lookIn name od = some (mA name) := by
  obtain ⟨o, es, ep, ho, hd, hk, _, hm⟩ := n
  refine ⟨o, ho, fun name => ?_⟩
  have e := hm name
  unfold nsFind findBy at e
  rw [← Array.find?_toList] at e
  unfold PySem.W.lookIn
  rw [hd]
  dsimp only
  split
  · rename_i y q
    rw [q] at e
    exact congrArg some e
  · rename_i q
    rw [q] at e
    have a : es.toList.any (·.refKey) = false := by
      rw [List.any_eq_false]
      intro y hy
      obtain ⟨z, t, hkey⟩ := hk y (Array.mem_toList_iff.mp hy)
      simp [DictEntry.refKey, hkey]
    have a' : ¬ es.toList.any (·.refKey) = true := by rw [a]; exact Bool.false_ne_true
    rw [if_neg a']
    exact congrArg some e

theorem ObjM.look {h : Heap} {x dx C : Addr} {mA : Str → Option Value} (I : ObjM h x dx C mA) : ∃ od, PySem.W.InstAt h x (PySem.W.instObj C dx) C (some od) ∧ ∀ name, PySem.W.lookIn name od = some (mA name) :=
  let ⟨od, ho, hl⟩ := lookIn_ns I.ns
  ⟨od, ⟨I.obj, rfl, rfl, ho⟩, hl⟩

section
variable {prog : Program} {w : World} {A : Around} {E : Value → Shared → Prop} {s : Shared} {K : PySem.W.Frag} {x dx C f : Addr} {mA : Str → Option Value} {name : Str} {v : Value}

end

/-! ### the attributes as a list of pairs -/
theorem RelO.some_of {v : V} {o : Option Value} (r : RelO (some v) o) : ∃ u, o = some u ∧ RelV v u := by
  cases o with
  | none => exact (show False from r).elim
  | some u => exact ⟨u, rfl, r⟩
section
variable {P : Program} {w : World} {H H' : Hp} {h h' : Heap} {a C dx : Addr} {fs fs' : List (Str × V)}
theorem ins_get (hok : HOk P w H h) (e : H a = some (.ins C dx fs)) : ∃ mA, ObjM h a dx C mA ∧ (∀ f, RelO (fs.lookup f) (mA f)) ∧ PySem.Within mA (fs.map (·.1)) ∧ fs.length ≤ 1000 ∧ H dx = some (.own a) := by
  obtain ⟨d, z, ne, ob, mA, n, r, q⟩ := (show ObjOk P w H h a (.ins C dx fs) from hok a _ e)
  exact ⟨mA, ⟨ob, n, ne⟩, r, q, z, d⟩
end

/-! ### what of the text a class must have -/
structure Cls (K : PySem.W.Frag) (C : Addr) : Prop where
  pg : PySem.W.plainGet K C Str.empty = true
  hd : PySem.W.hasDictIn K C = true
  po : PySem.W.plainOver K C = true
  sa : PySem.W.findIn K (.ref C) "__setattr__" = some (some (.builtin "object.__setattr__"))
theorem Cls.get {K : PySem.W.Frag} {C : Addr} (c : Cls K C) (f : Str) : PySem.W.plainGet K C f = true := c.pg
section
variable {X : Cx} {pins : List (Addr × Obj)} {σ : St} {H : Hp} {s : Shared} {a C dx : Addr} {fs : List (Str × V)} {f : Str} {v : V} {A : Around} {E : Value → Shared → Prop}

end

/-! ### readings and rules -/
section
variable {X : Cx} {o e value : Expr} {f : Str} {pos pos' tpos : Pos} {ta tv : TE}
end

/-! ### isinstance -/
section
variable {X : Cx} {pins : List (Addr × Obj)} {σ : St} {H : Hp} {s : Shared} {A : Around} {E : Value → Shared → Prop} {Q : Value → Shared → Prop} {c : Value} {b : Bool}
/-- the type of a value, as the fragment's deciders take it; for an instance its class -/
inductive TyOf (K : PySem.W.Frag) (H : Hp) : V → Value → Prop where
  | non : TyOf K H .non (.type "NoneType")
  | bl (x : Bool) : TyOf K H (.bl x) (.type "bool")
  | int (i : Int) : TyOf K H (.int i) (.type "int")
  | str (x : Str) : TyOf K H (.str x) (.type "str")
  | flt (x : UInt64) : TyOf K H (.flt x) (.type "float")
  | lst {a : Addr} {xs : List V} (e : H a = some (.lst xs)) : TyOf K H (.ref a) (.type "list")
  | frz {a : Addr} {o : Obj} {xs : List V} (e : H a = some (.frz o (.lst xs))) : TyOf K H (.ref a) (.type "list")
  | tup {a : Addr} {xs : List V} (e : H a = some (.tup xs)) : TyOf K H (.ref a) (.type "tuple")
  | dK {a : Addr} {kvs : List (Key × V)} (e : H a = some (.dK kvs)) : TyOf K H (.ref a) (.type "dict")
  | dT {a : Addr} {kvs : List (List Key × V)} (e : H a = some (.dT kvs)) : TyOf K H (.ref a) (.type "dict")
  | ins {a C dx : Addr} {fs : List (Str × V)} (e : H a = some (.ins C dx fs)) (cl : Cls K C) (ha : PySem.W.findIn K (.ref C) "__class__" = some (some (.builtin "object.__class__")))
      (hn : PySem.W.specialIn K (.builtin "object.__class__") "__get__" = some (some (.builtin "getset_descriptor.__get__"))) (htk : PySem.W.takesIn K (.builtin "object.__class__") = some true)
      (hm : PySem.W.mroIn K C (.type "object") = some true) : TyOf K H (.ref a) (.ref C)
/-- isinstance(x, c) for one class c, a built-in or an own one: kitOne's answer -/
theorem isinst_ok {x : V} {u t : Value} (I : Inv X pins σ H s) (rx : RelV x u) (ty : TyOf X.K H x t) (e : PySem.W.kitOne X.K t c = some b) (h : ∀ tk, Q (.bool b) { s with toks := tk }) :
    wpAny (model X.prog X.w) A (call (.builtin "isinstance") [u, c]) Q E s := by
  cases ty with
  | non => cases (show u = Value.none from rx); exact PySem.W.kia_one PySem.W.kitx_none I.kIn True.intro e (fun z => nomatch z) h
  | bl y => cases (show u = Value.bool y from rx); exact PySem.W.kia_one PySem.W.kitx_bool I.kIn True.intro e (fun z => nomatch z) h
  | int i => obtain ⟨t, q⟩ := (show ∃ t, u = Value.int i t from rx); cases q; exact PySem.W.kia_one PySem.W.kitx_int I.kIn True.intro e (fun z => nomatch z) h
  | str y => obtain ⟨t, q⟩ := (show ∃ t, u = Value.str y t from rx); cases q; exact PySem.W.kia_one PySem.W.kitx_str I.kIn True.intro e (fun z => nomatch z) h
  | flt y => obtain ⟨t, q⟩ := (show ∃ t, u = Value.float y t from rx); cases q; exact PySem.W.kia_one PySem.W.kitx_float I.kIn True.intro e (fun z => nomatch z) h
  | @lst a xs ea =>
    cases (show u = Value.ref a from rx)
    obtain ⟨_, _, n, _, h1⟩ := (show ObjOk X.prog X.w H s.heap a (.lst xs) from I.hok a _ ea)
    exact PySem.W.kia_one PySem.W.kitx_list I.kIn ⟨_, h1, rfl⟩ e (fun z => nomatch z) h
  | @frz a ob xs ea =>
    cases (show u = Value.ref a from rx)
    obtain ⟨_, _, _, n, _, h1⟩ := (show ObjOk X.prog X.w H s.heap a (.frz ob (.lst xs)) from I.hok a _ ea)
    exact PySem.W.kia_one PySem.W.kitx_list I.kIn ⟨_, h1, rfl⟩ e (fun z => nomatch z) h
  | @tup a xs ea =>
    cases (show u = Value.ref a from rx)
    obtain ⟨_, _, _, p⟩ := (show ObjOk X.prog X.w H s.heap a (.tup xs) from I.hok a _ ea)
    obtain ⟨o, h1, h2, _⟩ := p
    exact PySem.W.kia_one PySem.W.kitx_tuple I.kIn ⟨o, h1, h2⟩ e (fun z => nomatch z) h
  | @dK a kvs ea =>
    cases (show u = Value.ref a from rx)
    obtain ⟨_, _, vs, _, p⟩ := (show ObjOk X.prog X.w H s.heap a (.dK kvs) from I.hok a _ ea)
    obtain ⟨o, es, ep, h1, h2, _⟩ := p
    exact PySem.W.kia_one PySem.W.kitx_dict I.kIn ⟨o, h1, h2.1⟩ e (fun z => nomatch z) h
  | @dT a kvs ea =>
    cases (show u = Value.ref a from rx)
    obtain ⟨_, _, xs, _, o, es, ep, h1, h2, _⟩ := (show ObjOk X.prog X.w H s.heap a (.dT kvs) from I.hok a _ ea)
    exact PySem.W.kia_one PySem.W.kitx_dict I.kIn ⟨o, h1, h2.1⟩ e (fun z => nomatch z) h
  | @ins a C dx fs ea cl ha hn htk hm =>
    cases (show u = Value.ref a from rx)
    obtain ⟨mA, O, _⟩ := ins_get I.hok ea
    obtain ⟨od, J, _⟩ := O.look
    exact PySem.W.kia_one (PySem.W.kitx_own (cl.get _) cl.hd ha hn htk hm) I.kIn J e (fun z => nomatch z) h
end
end L2

namespace L2
open PySem PySem.Spec PyProof.Rows

/-! ### room -/
structure Room (k : Nat) (A : Around) : Prop where
  hd : A.handled = none
  dp : A.depth + 3 * k + 5 < recursionLimit
  un : A.units + 16 * k + 200 < cLine
  gd : A.guards = some []
theorem Room.mono {j k : Nat} {A : Around} (r : Room k A) (h : j ≤ k) : Room j A := ⟨r.hd, by have := r.dp; omega, by have := r.un; omega, r.gd⟩
theorem Room.deeper {k : Nat} {A : Around} (r : Room (k + 1) A) (env : Env) : Room k (A.deeper env) :=
  ⟨r.hd, by have := r.dp; show A.depth + 1 + 3 * k + 5 < _; omega, by have := r.un; show A.units + 3 + 16 * k + 200 < _; omega, r.gd⟩
theorem Room.depth {k : Nat} {A : Around} (r : Room k A) : A.depth < recursionLimit := by have := r.dp; omega
theorem Room.units {k : Nat} {A : Around} (r : Room k A) : A.units + 64 < cLine := by have := r.un; omega
/-! ### argument lists and displays -/
def tNil : TA := fun _ H Q => Q [] H
def tCons (ta : TE) (tr : TA) : TA := fun σ H Q => ta σ H fun x H1 => tr σ H1 fun xs H2 => Q (x :: xs) H2
section
variable {X : Cx} {e : Expr} {es : List Expr} {te : TE} {t : TA} {pos : Pos}
theorem pa_nil : PA X [] tNil := fun _ _ _ _ H Q I h => Calls.spliced_nil ⟨[], H, I, .nil, h⟩
theorem pa_cons (ha : PE X e te) (hr : PA X es t) (hs : starEach (e :: es) X.env = (false, eval e X.env) :: starEach es X.env := by rfl) : PA X (e :: es) (tCons te t) := by
  intro pos pins s σ H Q I h
  rw [hs]
  show wpAny _ _ (spliced ((false, eval e X.env) :: backTo pos (starEach es X.env))) _ _ s
  refine Calls.spliced_cons (thn (ha pins s σ H _ I h) fun u s1 ⟨x, H1, I1, r1, q1⟩ => ?_)
  exact thn (hr pos pins s1 σ H1 _ I1 q1) fun us s2 ⟨xs, H2, I2, r2, q2⟩ => ⟨x :: xs, H2, I2, .cons r1 r2, q2⟩

end

/-! ### what a def promises -/
/-- a def's promise: the bound arguments in the parameters' order, the heap, the wanted end, the wanted exception -/
abbrev Sp := List V → Hp → VK → XK → Prop
/-- how an exception lies behind a call (file 08 gives it): the callers' frames, abstract heap and state ahead of the call, the wish, the exception, the state -/
abbrev CXT := List Env → Hp → Shared → XK → Value → Shared → Prop

/-- the state at a call -/
structure Env0 (P : Program) (w : World) (K : PySem.W.Frag) (mg : Str → Option Value) (base : Heap) (A : Around) (outer : List Env) (s : Shared) (H : Hp) : Prop where
  frames : A.frames = some outer
  mod : Mod K mg base
  bs : ∀ b o, base.get? b = some o → s.heap.get? b = some o ∧ H b = none
  bsz : base.objs.size ≤ s.heap.objs.size
  funs : s.heap.FunFrames base outer
  frf : ∀ b ∈ frs outer, H b = none
  hok : HOk P w H s.heap
  bare : AllBare s.gens
/-- a call's end -/
def CE (outer : List Env) (P : Program) (w : World) (H : Hp) (s : Shared) (Q : VK) (u : Value) (s' : Shared) : Prop :=
  ∃ v H', s'.os = s.os ∧ AllBare s'.gens ∧ Un (frs outer) [] H H' s.heap s'.heap ∧ HOk P w H' s'.heap ∧ RelV v u ∧ Q v H'
def CR (CX : CXT) (outer : List Env) (P : Program) (w : World) (H : Hp) (s : Shared) (Q : VK) (E : XK) (r : Result) (s' : Shared) : Prop :=
  match r with
  | .ok (.ret u) => CE outer P w H s Q u s'
  | .ok _ => False
  | .error e => CX outer H s E e s'
structure FnOk (P : Program) (w : World) (K : PySem.W.Frag) (mg : Str → Option Value) (base : Heap) (CX : CXT) (k : Nat) (f : Addr) (fd : FuncData) (ps : List Str) (sp : Sp) : Prop where
  len : ∀ vs H Q E, sp vs H Q E → vs.length = ps.length
  run : ∀ (A : Around) (outer : List Env) (s : Shared) (H : Hp) (args : Args) (us : List Value) (vs : List V) (Q : VK) (E : XK), Room k A → Env0 P w K mg base A outer s H → BindsTo s fd args (ps.zip us) → Vals vs us → sp vs H Q E →
    codeAny (model P w) A (.call (.ref f) args) (CR CX outer P w H s Q E) s
section
variable {X : Cx} {pins : List (Addr × Obj)} {σ : St} {H : Hp} {s s' : Shared}
/-- from a body: what a callee wants -/
theorem Inv.env0 (I : Inv X pins σ H s) : Env0 X.prog X.w X.K X.mg X.base X.A X.stack s H :=
  ⟨I.ok.frames, I.ok.mod, I.bs, Nat.le_trans I.ok.bsz I.sz, I.stack, I.stkFree, I.hok, I.bare⟩
/-- behind a call -/
theorem Inv.after {Q : VK} {u : Value} (I : Inv X pins σ H s) (h : CE X.stack X.prog X.w H s Q u s') : EP X pins σ Q u s' := by
  obtain ⟨v, H', os, bare, un, hok, r, q⟩ := h
  obtain ⟨hh, g, d, t, os'⟩ := s'
  obtain rfl : os' = s.os := os
  exact ⟨v, H', I.call (h' := hh) (g' := g) (d' := d) (t' := t) (ch := []) un hok bare (fun b z => absurd z (by simp)), r, q⟩
end

/-! ### calls -/
/-- f(..): the written arguments, then the defaults dvs; E: what is wanted of an exception -/
def tCall (sp : Sp) (dvs : List V) (E : XK) (t : TA) : TE := fun σ H Q => t σ H fun vs H1 => sp (vs ++ dvs) H1 Q E
/-- how the parameters are bound: us the positional arguments, kw the keywords' values by name, ds the defaults that fill up -/
def Binds (K : PySem.W.Frag) (fd : FuncData) (ps : List Str) (ds : List Value) : Prop :=
  ∀ (s : Shared) (us : List Value), K.In s.heap → (us ++ ds).length = ps.length → BindsTo s fd ⟨us, []⟩ (ps.zip (us ++ ds))
/-- every parameter is given -/
theorem Binds.all {K : PySem.W.Frag} {fd : FuncData} {ps : List Str} (h : ∀ us : List Value, us.length = ps.length → bindArgs fd ⟨us, []⟩ = pure (ps.zip us)) : Binds K fd ps [] := fun s us _ hl => by
  rw [List.append_nil] at hl ⊢
  exact .of_eq (h us hl)

/-- an exception of a callee reaches what this body wants of exceptions -/
def Passes (CX : CXT) (X : Cx) (E : XK) : Prop := ∀ (pins : List (Addr × Obj)) (σ : St) (H : Hp) (s : Shared) (e : Value) (s' : Shared), Inv X pins σ H s → CX X.stack H s E e s' → X.xe e s'

section
variable {X : Cx} {CX : CXT} {k : Nat} {f C : Addr} {fd : FuncData} {ps : List Str} {sp : Sp} {dvs : List V} {ds : List Value} {E : XK} {x m : Str} {p pos apos : Pos} {e o : Expr} {es : List Expr} {ta : TE} {t : TA}

/-- the callee runs -/
theorem run_fn {pins : List (Addr × Obj)} {σ : St} {H : Hp} {s : Shared} {Q : VK} {us : List Value} {vs : List V} (F : FnOk X.prog X.w X.K X.mg X.base CX k f fd ps sp) (hr : Room k X.A) (hb : Binds X.K fd ps ds) (hd : Vals dvs ds) (hx : Passes CX X E)
    (I : Inv X pins σ H s) (r : Vals vs us) (h : sp (vs ++ dvs) H Q E) : wpAny (model X.prog X.w) X.A (call (.ref f) us) (EP X pins σ Q) X.xe s := by
  have r2 : Vals (vs ++ dvs) (us ++ ds) := r.append hd
  have hl : (us ++ ds).length = ps.length := by rw [← r2.length]; exact F.len _ _ _ _ h
  refine wpAny_call (codeAny_mono (F.run X.A X.stack s H ⟨us, []⟩ (us ++ ds) (vs ++ dvs) Q E hr I.env0 (hb s us I.kIn hl) r2 h) fun r s' hq => ?_)
  cases r with
  | error e => exact hx pins σ H s e s' I hq
  | ok fl =>
    cases fl with
    | ret u => exact I.after hq
    | next => exact False.elim hq
    | brk => exact False.elim hq
    | cont => exact False.elim hq

theorem pe_call (F : FnOk X.prog X.w X.K X.mg X.base CX k f fd ps sp) (hr : Room k X.A) (hg : Gl X x) (hm : X.mg x = some (.ref f)) (hk : PySem.W.keepIn X.K (.ref f) = true) (hb : Binds X.K fd ps ds) (hd : Vals dvs ds) (hx : Passes CX X E)
    (ha : PA X (e :: es) t) (hdb : (x == ("__debug__" : Str)) = false := by decide) (he : starEach (e :: es) X.env = (false, eval e X.env) :: starEach es X.env := by rfl) (hpl : (backTo pos (starEach es X.env)).any (·.1) = false := by rfl) :
    PE X (.Call (.Name x p) (e :: es) [] pos) (tCall sp dvs E t) := by
  intro pins s σ H Q I h
  refine wpAny_Call_Name_kw (ld_glob I hg hm ?_ hdb)
  refine PySem.W.callWith_K (h₀ := X.base) I.ok.mod.kin hk (thn (ha pos pins s σ H _ I h) fun us s1 ⟨vs, H1, I1, r, q⟩ => ⟨I1.kIn, ?_⟩) he hpl
  exact run_fn F hr hb hd hx I1 r q
end

/-! ### keywords -/
section
variable {X : Cx} {CX : CXT} {k : Nat} {f C : Addr} {fd : FuncData} {ps ks : List Str} {sp : Sp} {E : XK} {x m : Str} {p pos apos kpos : Pos} {e o : Expr} {es : List Expr} {kws : List Keyword} {te ta : TE} {t tk : TA} {nm : Option Str}
variable {g : List Value → List Value → List Value} {gV : List V → List V → List V}
end

/-! ### a def's body keeps its promise -/
/-- names: the parameters first -/
structure FnScope (N P : List Str) (sc : Scope) : Prop where
  kind : sc.kind = .function
  co : sc.isCoroutine = false
  gen : sc.isGenerator = false
  nd : N.Nodup
  pre : N.take P.length = P
  par : ∀ x ∈ P, sc.names.lookup x = some .local ∨ sc.names.lookup x = some .cell
  nofree : ∀ y ∈ sc.names, y.2 ≠ .free

theorem bindL_out {kindOf : Str → Option NameKind} {x : Str} : ∀ {binds : List (Str × Value)} {m : Str → Option Value}, (∀ v, (x, v) ∉ binds) → bindL kindOf binds m x = m x
  | [], _, _ => rfl
  | (n, v) :: r, m, h => by
    unfold bindL
    rw [bindL_out fun w hw => h w (List.mem_cons_of_mem _ hw)]
    split
    · have : x ≠ n := by rintro rfl; exact h v List.mem_cons_self
      simp [this]
    · rfl
theorem bindC_out {kindOf : Str → Option NameKind} {x : Str} : ∀ {binds : List (Str × Value)} {m : Str → Option Value}, (∀ v, (x, v) ∉ binds) → bindC kindOf binds m x = m x
  | [], _, _ => rfl
  | (n, v) :: r, m, h => by
    unfold bindC
    rw [bindC_out fun w hw => h w (List.mem_cons_of_mem _ hw)]
    split
    · rfl
    · have : x ≠ n := by rintro rfl; exact h v List.mem_cons_self
      simp [this]
theorem bindL_get {kindOf : Str → Option NameKind} {x : Str} {v : Value} : ∀ {P : List Str} {vs : List Value} {i : Nat} {m : Str → Option Value}, P.Nodup → P[i]? = some x → vs[i]? = some v → kindOf x = some .local →
    bindL kindOf (P.zip vs) m x = some v
  | [], _, _, _, _, h, _, _ => by simp at h
  | _ :: _, [], _, _, _, _, h, _ => by simp at h
  | p :: P, w :: vs, 0, m, nd, h1, h2, hk => by
    simp at h1 h2; subst h1; subst h2
    show bindL kindOf ((p, w) :: P.zip vs) m p = _
    unfold bindL
    rw [bindL_out fun v hv => (List.nodup_cons.mp nd).1 (List.of_mem_zip hv).1, if_pos hk]
    simp
  | p :: P, w :: vs, i + 1, m, nd, h1, h2, hk => by
    show bindL kindOf ((p, w) :: P.zip vs) m x = _
    unfold bindL
    exact bindL_get (i := i) (List.nodup_cons.mp nd).2 (by simpa using h1) (by simpa using h2) hk
theorem bindC_get {kindOf : Str → Option NameKind} {x : Str} {v : Value} : ∀ {P : List Str} {vs : List Value} {i : Nat} {m : Str → Option Value}, P.Nodup → P[i]? = some x → vs[i]? = some v → kindOf x ≠ some .local →
    bindC kindOf (P.zip vs) m x = some v
  | [], _, _, _, _, h, _, _ => by simp at h
  | _ :: _, [], _, _, _, _, h, _ => by simp at h
  | p :: P, w :: vs, 0, m, nd, h1, h2, hk => by
    simp at h1 h2; subst h1; subst h2
    show bindC kindOf ((p, w) :: P.zip vs) m p = _
    unfold bindC
    rw [bindC_out fun v hv => (List.nodup_cons.mp nd).1 (List.of_mem_zip hv).1, if_neg hk]
    simp
  | p :: P, w :: vs, i + 1, m, nd, h1, h2, hk => by
    show bindC kindOf ((p, w) :: P.zip vs) m x = _
    unfold bindC
    exact bindC_get (i := i) (List.nodup_cons.mp nd).2 (by simpa using h1) (by simpa using h2) hk

/-- the names' values at the entry -/
def start (N : List Str) (vs : List V) : St := vs.map some ++ List.replicate (N.length - vs.length) none

/-- the context of a def's body, at its entry; an exception leaves the frame, then lies as CX says -/
def cxOf (CX : CXT) (P : Program) (w : World) (K : PySem.W.Frag) (mg : Str → Option Value) (base : Heap) (N : List Str) (qual : Str) (scope : Scope) (f : Addr) (cd : Value) (A : Around) (outer : List Env) (s : Shared) (H : Hp) (E : XK) : Cx where
  prog := P
  w := w
  K := K
  mg := mg
  base := base
  A := A.deeper (envOfC qual scope s.heap.objs.size f cd)
  N := N
  s₀ := s
  H₀ := H
  env := envOfC qual scope s.heap.objs.size f cd
  outer := outer
  stack := envOfC qual scope s.heap.objs.size f cd :: outer
  ex := []
  calm := true
  fn := fun _ => true
  pn := []
  xe := fun e s' => wpAny (model P w) (A.deeper (envOfC qual scope s.heap.objs.size f cd)) (leaving (envOfC qual scope s.heap.objs.size f cd) e) (fun _ s'' => CX outer H s E e s'') (fun e' s'' => CX outer H s E e' s'') s'

theorem cell_has {sc : Scope} {n : Nat} {x : Str} (h : sc.names.lookup x = some .cell) : ∃ c, (cellsFrom n sc.names []).lookup x = some c := by
  have q := PySem.W.cellsFrom_some sc.names n [] (.inl h)
  exact Option.isSome_iff_exists.mp q

theorem inv_start {CX : CXT} {P : Program} {w : World} {K : PySem.W.Frag} {mg : Str → Option Value} {base : Heap} {N ps : List Str} {qual : Str} {scope : Scope} {f : Addr} {cd : Value} {A : Around} {outer : List Env} {s s1 : Shared} {H : Hp} {E : XK} {us : List Value} {vs : List V}
    (S : FnScope N ps scope) (hd : A.handled = none) (e0 : Env0 P w K mg base A outer s H) (hl : vs.length = ps.length) (r : Vals vs us)
    (x : InCallC s s.heap.objs.size (bindL (envOfC qual scope s.heap.objs.size f cd).kindOf (ps.zip us) fun _ => none) (cellsFrom (s.heap.objs.size + 1) scope.names []) (bindC (envOfC qual scope s.heap.objs.size f cd).kindOf (ps.zip us) fun _ => none) s1) :
    Inv (cxOf CX P w K mg base N qual scope f cd A outer s H E) [] (start N vs) H s1 := by
  have hpl : ps.length ≤ N.length := by have := congrArg List.length S.pre; rw [List.length_take] at this; omega
  obtain ⟨h1, tk, rfl, hk⟩ := x.done
  have noA : ∀ b : Addr, b ∉ (cxOf CX P w K mg base N qual scope f cd A outer s H E).ex := fun b z => absurd (show b ∈ ([] : List Addr) from z) (by simp)
  refine ⟨⟨e0.mod, S.kind, rfl, rfl, Nat.le_refl _, fun y z c h1 h2 => ?_, fun y hy => ?_, fun y c _ h => ?_, fun _ => hd, Around.frames_deeper e0.frames, .inr ⟨rfl, rfl⟩, fun b z => absurd z (noA b), e0.bs, e0.bsz, fun b _ _ => noA b, fun b z => absurd z (noA b), e0.funs, e0.frf⟩,
    rfl, e0.bare, Un.kept hk, ⟨_, x.toInCall.ns, fun i y v h1 h2 h3 => ?_⟩, fun y c h => ⟨_, x.cell y c h⟩, e0.hok.fresh (Nat.le_refl _), fun y c h => ?_, fun p hp => absurd (show p ∈ ([] : List (Addr × Obj)) from hp) (by simp), e0.hok.kept hk, ?_⟩
  · exact name_of_addr x.apart (PySem.mem_of_lookup h1) (PySem.mem_of_lookup h2)
  · have hy : scope.names.lookup y = some .cell ∨ scope.names.lookup y = some .free := hy
    rcases hy with hy | hy
    · exact cell_has hy
    · exact absurd rfl (S.nofree _ (PySem.mem_of_lookup hy))
  · exact Nat.le_of_lt (x.above y c (PySem.mem_of_lookup h))
  · have hi : i < vs.length := by
      unfold start at h2
      by_cases hi : i < vs.length
      · exact hi
      · rw [List.getElem?_append_right (by simpa using hi)] at h2
        rw [List.getElem?_replicate] at h2
        split at h2 <;> cases h2
    have ha : vs[i]? = some v := by
      unfold start at h2
      rw [List.getElem?_append_left (by simpa using hi), List.getElem?_map] at h2
      cases e : vs[i]? with
      | none => rw [e] at h2; cases h2
      | some a => rw [e] at h2; cases h2; rfl
    obtain ⟨u, hu, rv⟩ := r.get ha
    have hp : ps[i]? = some y := by
      rw [← S.pre, List.getElem?_take_of_lt (by omega)]; exact h1
    have ndP : ps.Nodup := by rw [← S.pre]; exact S.nd.sublist (List.take_sublist _ _)
    refine ⟨u, rv, ?_⟩
    rcases S.par y (List.mem_of_getElem? hp) with k | k
    · exact .inl ⟨k, bindL_get ndP hp hu k⟩
    · obtain ⟨c, e⟩ := cell_has (n := s.heap.objs.size + 1) k
      refine .inr ⟨.inl k, c, e, ?_⟩
      have q := x.cell y c e
      rw [bindC_get ndP hp hu (by show scope.names.lookup y ≠ _; rw [k]; decide)] at q
      exact q
  · exact e0.hok.fresh (Nat.le_of_lt (x.above y c (PySem.mem_of_lookup h)))
  · unfold start
    show _ = N.length
    rw [List.length_append, List.length_map, List.length_replicate]
    omega

/-- THE RULE: a def (or a method) of the text, by its body. The body's reading t is chosen for each entry; it is run at the parameters' values -/
theorem fn_of {CX : CXT} {P : Program} {w : World} {K : PySem.W.Frag} {mg : Str → Option Value} {base : Heap} {k : Nat} {f : Addr} {name qual : Str} {params : Arguments} {body : List Stmt} {scope : Scope} {dV kV doc pm cdv ct oc : Value} {an od : Option Addr}
    {osl : Array (Option Value)} {N ps : List Str} {sp : Sp} (lk : K.lookup f = some ⟨oc, od, .func (PySem.W.fnOf name qual params body scope dV kV doc pm an cdv ct), osl⟩) (hcd : PySem.W.codeIn K cdv qual = true) (S : FnScope N ps scope)
    (len : ∀ vs H Q E, sp vs H Q E → vs.length = ps.length)
    (hbody : ∀ (A : Around) (outer : List Env) (s : Shared) (H : Hp) (vs : List V) (Q : VK) (E : XK), Room k (A.deeper (envOfC qual scope s.heap.objs.size f cdv)) → sp vs H Q E →
      ∃ t, PSs (cxOf CX P w K mg base N qual scope f cdv A outer s H E) body t ∧ t { nx := fun _ H' => Q .non H', rt := Q } (start N vs) H) :
    FnOk P w K mg base CX (k + 1) f (PySem.W.fnOf name qual params body scope dV kV doc pm an cdv ct) ps sp := by
  refine ⟨len, fun A outer s H args us vs Q E hr e0 hb r hsp => ?_⟩
  have hl := len _ _ _ _ hsp
  have KX : K.In s.heap := e0.mod.kin.keeps fun b o e => (e0.bs b o e).1
  have lim : s.heap.NoLimit := e0.mod.nolimit.keeps fun b o e => (e0.bs b o e).1
  have hkind : ∀ y ∈ ps.zip us, scope.names.lookup y.1 = some .local ∨ (scope.names.lookup y.1 = some .cell ∧ ((cellsFrom (s.heap.objs.size + 1) scope.names []).lookup y.1).isSome = true) := fun ⟨n, v⟩ hy => by
    rcases S.par n (List.of_mem_zip hy).1 with q | q
    · exact .inl q
    · exact .inr ⟨q, PySem.W.cellsFrom_some _ _ _ (.inl q)⟩
  refine codeAny_call_function hr.depth (KX _ _ lk) rfl S.co S.gen rfl (PySem.W.codeRec_of KX hcd) (hb _ _ _ _ ?_)
  refine wpAny_newFunctionEnv_cells S.kind hkind fun env he s1 x => ?_
  subst he
  refine ⟨lim.keeps x.toInCall.keep, codeAny_func ?_⟩
  obtain ⟨t, ht, hq⟩ := hbody A outer s H vs Q E (hr.deeper _) hsp
  have I : Inv (cxOf CX P w K mg base N qual scope f cdv A outer s H E) [] (start N vs) H s1 := inv_start S hr.hd e0 hl r x
  refine wpAny_mono (ht [] s1 (start N vs) H _ I hq) (fun fl s' hs => ?_) fun e s' hs => hs
  have fin : ∀ {σ' : St} {H' : Hp} {v : V} {u : Value}, Inv (cxOf CX P w K mg base N qual scope f cdv A outer s H E) [] σ' H' s' → RelV v u → Q v H' → CE outer P w H s Q u s' :=
    fun {σ' H' v u} J rv q => ⟨v, H', J.os, J.bare, J.base, J.hok, rv, q⟩
  cases fl with
  | ret u =>
    obtain ⟨v, σ', H', J, rv, q⟩ := hs
    exact fin J rv q
  | next =>
    obtain ⟨σ', H', J, q⟩ := hs
    exact fin (v := V.non) (u := Value.none) J rfl q
  | brk =>
    obtain ⟨_, _, _, q⟩ := hs
    exact False.elim q
  | cont =>
    obtain ⟨_, _, _, q⟩ := hs
    exact False.elim q
end L2

namespace L2
open PySem PySem.Spec PyProof.Rows
section
variable {X : Cx} {x : Str} {p pos : Pos} {e : Expr} {es : List Expr} {t : TA} {id T : String} {r : List V → Hp → VK → Prop}

def tCB (r : List V → Hp → VK → Prop) (t : TA) : TE := fun σ H Q => t σ H fun vs H1 => r vs H1 Q
/-- f(e, ..), f a built-in function -/
theorem pe_callB (hc : CallR X (.builtin id) r) (hg : Gl X x) (hm : X.mg x = none) (hv : bootBuiltins x = some (.builtin id)) (ha : PA X (e :: es) t) (hn : x ≠ "__name__" := by decide) (hdb : (x == ("__debug__" : Str)) = false := by decide)
    (he : starEach (e :: es) X.env = (false, eval e X.env) :: starEach es X.env := by rfl) (hpl : (backTo pos (starEach es X.env)).any (·.1) = false := by rfl) : PE X (.Call (.Name x p) (e :: es) [] pos) (tCB r t) := by
  intro pins s σ H Q I h
  refine wpAny_Call_Name_kw (ld_blt I hg hm hv ?_ hn hdb)
  exact PyProof.Rows.callWith_builtin1 (thn (ha pos pins s σ H _ I h) fun us s1 ⟨vs, H1, I1, r1, q1⟩ => hc pins s1 σ H1 vs us Q I1 r1 q1) he hpl
/-- T(e, ..), T a built-in type -/
theorem pe_callTy (hc : CallR X (.type T) r) (hg : Gl X x) (hm : X.mg x = none) (hv : bootBuiltins x = some (.type T)) (ha : PA X (e :: es) t) (hn : x ≠ "__name__" := by decide) (hdb : (x == ("__debug__" : Str)) = false := by decide)
    (he : starEach (e :: es) X.env = (false, eval e X.env) :: starEach es X.env := by rfl) (hpl : (backTo pos (starEach es X.env)).any (·.1) = false := by rfl) : PE X (.Call (.Name x p) (e :: es) [] pos) (tCB r t) := by
  intro pins s σ H Q I h
  refine wpAny_Call_Name_kw (ld_blt I hg hm hv ?_ hn hdb)
  exact PyProof.Rows.callWith_type1 (thn (ha pos pins s σ H _ I h) fun us s1 ⟨vs, H1, I1, r1, q1⟩ => hc pins s1 σ H1 vs us Q I1 r1 q1) he hpl
end
end L2

namespace HT
open PySem PyProof.Rows

section
open PySem.SeqAt
open PySem.AutoSeq1 (wpAny_loadPart')
open PySem.MeetsSeq PySem.MeetsSeq2 PySem.MeetsSeq3

end

section
variable {prog : Program} {w : World} {A : Around} {E : Value → Shared → Prop} {s : Shared}

/-! ### t[a:b], not the whole -/
/-- a slice's bound as a place among n (d where it is left out) -/
def sIx (n d : Nat) : Option Int → Nat
  | none => d
  | some v => if v < 0 then (v + (n : Int)).toNat else min v.toNat n
theorem sIx_le (n d : Nat) (hd : d ≤ n) (o : Option Int) : sIx n d o ≤ n := by
  cases o with
  | none => exact hd
  | some v =>
    show (if v < 0 then (v + (n : Int)).toNat else min v.toNat n) ≤ n
    by_cases hv : v < 0
    · rw [if_pos hv]; omega
    · rw [if_neg hv]; exact Nat.min_le_right _ _
theorem clip_eq (v : Int) (n d : Nat) : (if v < 0 then max (v + (n : Int)) 0 else min v (n : Int)) = ((sIx n d (some v) : Nat) : Int) := by
  show (if v < 0 then max (v + (n : Int)) 0 else min v (n : Int)) = (((if v < 0 then (v + (n : Int)).toNat else min v.toNat n) : Nat) : Int)
  by_cases hv : v < 0
  · simp only [if_pos hv]; omega
  · simp only [if_neg hv]; omega
theorem adjust_gen (lo hi : Option Int) (n : Nat) : Builtin.Slice.sliceAdjust lo hi 1 (n : Int) = (((sIx n 0 lo : Nat) : Int), ((sIx n n hi : Nat) : Int)) := by
  have h1 : ¬ ((1 : Int) < 0) := by omega
  unfold Builtin.Slice.sliceAdjust
  simp only [h1, if_false]
  refine Prod.ext ?_ ?_
  · cases lo with
    | none => rfl
    | some v => exact clip_eq v n 0
  · cases hi with
    | none => rfl
    | some v => exact clip_eq v n n
theorem places_gen (i j : Nat) : Builtin.Slice.slicePlaces (i : Int) (j : Int) 1 = j - i := by
  unfold Builtin.Slice.slicePlaces
  have h1 : (1 : Int) > 0 := by omega
  simp only [h1, if_true, Int.ediv_one]
  split <;> omega
theorem slicePart_ {v : Value} {o : Option Int} {Q : Option Int → Shared → Prop} (p : IsPart v o) (h : Q o s) : wpAny (model prog w) A (Builtin.Slice.slicePartIndex v) Q E s := by
  cases p with
  | none => exact slicePart_none h
  | int i t => exact slicePart_int h
theorem sliceApplied_gen {sl : Addr} {vl vu : Value} {lo hi : Option Int} {n : Nat} {Q : Int × Int × Nat → Shared → Prop} (hs : s.heap.IsSliceOf sl vl vu .none) (pl : IsPart vl lo) (pu : IsPart vu hi)
    (h : Q (((sIx n 0 lo : Nat) : Int), 1, sIx n n hi - sIx n 0 lo) s) : wpAny (model prog w) A (Builtin.Slice.sliceApplied (.ref sl) (pure (n : Int))) Q E s := by
  obtain ⟨os, hos, hcs, hds⟩ := id hs
  unfold Builtin.Slice.sliceApplied Builtin.Slice.sliceFields
  refine wpAny_bind (wpAny_bind (wpAny_field hos hds (x := vl) rfl (wpAny_bind (wpAny_field hos hds (x := vu) rfl (wpAny_bind (wpAny_field hos hds (x := .none) rfl (wpAny_pure ?_)))))))
  refine wpAny_bind (slicePart_none ?_)
  show wpAny _ _ (if ((1 : Int) == 0) = true then _ else _) _ _ s
  rw [if_neg (by decide)]
  refine wpAny_bind (slicePart_ pl (wpAny_bind (slicePart_ pu (wpAny_bind (wpAny_pure ?_)))))
  show wpAny _ _ (match Builtin.Slice.sliceAdjust lo hi 1 (n : Int) with | (lo, hi) => pure (lo, (1 : Int), Builtin.Slice.slicePlaces lo hi 1)) _ _ s
  rw [adjust_gen lo hi n]
  show wpAny _ _ (pure (((sIx n 0 lo : Nat) : Int), (1 : Int), Builtin.Slice.slicePlaces ((sIx n 0 lo : Nat) : Int) ((sIx n n hi : Nat) : Int) 1)) _ _ s
  rw [places_gen]
  exact wpAny_pure h
theorem pick_gen (xs : Array Value) (i k : Nat) : ((List.range k).filterMap fun (m : Nat) => xs[((i : Int) + (m : Int) * 1).toNat]?).toArray = ((xs.toList.drop i).take k).toArray := by
  have e : (fun (m : Nat) => xs[((i : Int) + (m : Int) * 1).toNat]?) = fun m => xs[i + m]? := by
    funext m
    have : ((i : Int) + (m : Int) * 1).toNat = i + m := by omega
    rw [this]
  rw [e]
  have := pick_run xs i k
  rw [List.filterMap_map] at this
  have e2 : ((fun x => xs[x]?) ∘ fun x => i + x) = fun m => xs[i + m]? := rfl
  rw [e2] at this
  rw [this]

theorem getItem_tuple_cut {t sl : Addr} {items : Array Value} {vl vu : Value} {lo hi : Option Int} {Q : Value → Shared → Prop} (ht : IsTup s.heap t items) (hs : s.heap.IsSliceOf sl vl vu .none) (pl : IsPart vl lo) (pu : IsPart vu hi)
    (hw : ¬ (sIx items.size 0 lo = 0 ∧ sIx items.size items.size hi = items.size))
    (h : Q (.ref s.heap.objs.size) { s with heap := s.heap.push { cls := .type "tuple", data := .seq ((items.toList.drop (sIx items.size 0 lo)).take (sIx items.size items.size hi - sIx items.size 0 lo)).toArray } })
    (hsz : items.size ≤ sizeLine) : wpAny (model prog w) A (getItem (.ref t) (.ref sl)) Q E s := by
  have htake : sizeOk (.seq ((items.toList.drop (sIx items.size 0 lo)).take (sIx items.size items.size hi - sIx items.size 0 lo)).toArray) := by
    show ((items.toList.drop (sIx items.size 0 lo)).take (sIx items.size items.size hi - sIx items.size 0 lo)).toArray.size ≤ sizeLine
    rw [List.size_toArray, List.length_take, List.length_drop, Array.length_toList]
    omega
  have hj : sIx items.size items.size hi ≤ items.size := sIx_le _ _ (Nat.le_refl _) hi
  obtain ⟨os, hos, hcs, hds⟩ := id hs
  have hTs : s.TypeIs (.ref sl) "slice" := ⟨os, hos, hcs⟩
  unfold getItem
  try with_reducible refine wpAny_holding ?_
  first | refine wpAny_bind (wpAny_pure ?_) | skip
  refine wpAny_bind (wpAny_sequenceKey ht.typeIs (by decide) ?_)
  refine wpAny_bind (wpAny_callSpecial?_slot (name := Str.ofString "__getitem__") ht.typeIs PyProof.Rows.slot_tuple_getitem
    (wpAny_call_entry PyProof.Rows.slot_tuple_getitem ht.typeIs entry_tuple_getitem ?_ (args_tuple_getitem _ _)))
  show wpAny _ _ (Builtin.Tuple.tupleItemsOf (.ref t) >>= _) _ _ s
  refine wpAny_bind (tupleItemsOf_ ht ?_)
  refine wpAny_bind (wpAny_typeOf hTs ?_)
  rw [if_pos (by decide)]
  refine wpAny_bind (sliceApplied_gen hs pl pu ?_)
  have hno : ¬ ((((sIx items.size 0 lo : Nat) : Int) == 0 && (1 : Int) == 1 && (sIx items.size items.size hi - sIx items.size 0 lo) == items.size) = true) := by
    intro q
    rw [Bool.and_eq_true, Bool.and_eq_true] at q
    have q1 : ((sIx items.size 0 lo : Nat) : Int) = 0 := eq_of_beq q.1.1
    have q2 : sIx items.size items.size hi - sIx items.size 0 lo = items.size := eq_of_beq q.2
    exact hw ⟨by omega, by omega⟩
  show wpAny _ _ (if (((sIx items.size 0 lo : Nat) : Int) == 0 && (1 : Int) == 1 && (sIx items.size items.size hi - sIx items.size 0 lo) == items.size) = true then _ else _) _ _ s
  rw [if_neg hno, pick_gen]
  first
    | exact wpAny_bind (m := Builtin.Tuple.tupleExact _) (wpAny_newObj_type (wpAny_pure ⟨_, rfl, wpAny_pure h⟩) htake)
    | exact wpAny_bind (m := Builtin.Tuple.tupleExact _) (wpAny_newObj_type (wpAny_bind (wpAny_pure (wpAny_pure ⟨_, rfl, wpAny_pure h⟩))) htake)
    | exact wpAny_bind (wpAny_bind (m := Builtin.Tuple.tupleExact _) (wpAny_newObj_type (wpAny_pure (wpAny_pure ⟨_, rfl, wpAny_pure h⟩)) htake))
    | exact wpAny_bind (wpAny_bind (m := Builtin.Tuple.tupleExact _) (wpAny_newObj_type (wpAny_pure ⟨_, rfl, wpAny_pure h⟩) htake))
end
end HT

namespace L2
open PySem PySem.Spec PyProof.Rows

/-! ### the parts of a slice -/
abbrev TO := St → Hp → (Option Int → Hp → Prop) → Prop
/-- a slice's part (left out, or an int) -/
def PO (X : Cx) (e : Option Expr) (t : TO) : Prop :=
  ∀ (pins : List (Addr × Obj)) (s : Shared) (σ : St) (H : Hp) (Q : Option Int → Hp → Prop), Inv X pins σ H s → t σ H Q →
    wpAny (model X.prog X.w) X.A (evalPart e X.env) (fun u s' => ∃ o H', Inv X pins σ H' s' ∧ IsPart u o ∧ Q o H') X.xe s
def tNoPart : TO := fun _ H Q => Q none H
theorem intsAre_of {ns : List Int} : ∀ {us : List Value}, Vals (ns.map V.int) us → IntsAre us ns := by
  induction ns with
  | nil => intro us r; rw [List.map_nil] at r; cases r; exact .nil
  | cons n ns ih =>
    intro us r
    rw [List.map_cons] at r
    cases r with
    | cons r1 r2 =>
      obtain ⟨t, e⟩ := r1
      subst e
      exact .cons n t (ih r2)

section
variable {X : Cx} {e : Expr} {te : TE} {lo hi : Option Expr} {tl th : TO} {pos p2 : Pos}

theorem po_none : PO X none tNoPart := by
  intro pins s σ H Q I h
  rw [evalPart_none]
  exact wpAny_pure ⟨none, H, I, .none, h⟩
/-- what a slice of a value is, by values: the slice object stands at sl -/
def SlR (X : Cx) (r : V → Option Int → Option Int → Hp → VK → Prop) : Prop :=
  ∀ (pins : List (Addr × Obj)) (s : Shared) (σ : St) (H : Hp) (x : V) (v vl vu : Value) (lo hi : Option Int) (sl : Addr) (Q : VK), Inv X pins σ H s → RelV x v → s.heap.IsSliceOf sl vl vu .none → IsPart vl lo → IsPart vu hi → r x lo hi H Q →
    ∃ T id, typeLookup (.type T) "__getitem__" = pure (some (.builtin id)) ∧ s.TypeIs v T ∧ wpAny (model X.prog X.w) X.A (getItem v (.ref sl)) (EP X pins σ Q) X.xe s
def tSl (r : V → Option Int → Option Int → Hp → VK → Prop) (te : TE) (tl th : TO) : TE := fun σ H Q => te σ H fun x H1 => tl σ H1 fun l H2 => th σ H2 fun u H3 => r x l u H3 Q
/-- a[lo:hi], any a -/
theorem pe_slice {r : V → Option Int → Option Int → Hp → VK → Prop} (hr : SlR X r) (he : PE X e te) (hl : PO X lo tl) (hu : PO X hi th) : PE X (.Subscript e (.Slice lo hi none p2) pos) (tSl r te tl th) := by
  intro pins s σ H Q I h
  refine Subscript_ (thn (he pins s σ H _ I h) fun v s1 ⟨x, H1, I1, r1, q1⟩ => ?_)
  refine wpAny_Slice (thn (hl pins s1 σ H1 _ I1 q1) fun vl s2 ⟨l, H2, I2, pl, q2⟩ => thn (hu pins s2 σ H2 _ I2 q2) fun vu s3 ⟨u, H3, I3, pu, q3⟩ => ?_)
  rw [evalPart_none]
  refine wpAny_pure ?_
  have I4 : Inv X pins σ H3 { s3 with heap := s3.heap.push { cls := .type "slice", data := .fields #[vl, vu, .none] } } := I3.kept (t' := s3.toks) fun b ob q => Heap.get?_push_of_some _ q
  obtain ⟨T, id, hT, ht, hg⟩ := hr pins { s3 with heap := s3.heap.push { cls := .type "slice", data := .fields #[vl, vu, .none] } } σ H3 x v vl vu l u s3.heap.objs.size Q I4 r1 (Heap.IsSliceOf.new ..) pl pu q3
  show wpAny (model X.prog X.w) X.A (subscriptTail e (.Slice lo hi none p2) v (.ref s3.heap.objs.size)) (EP X pins σ Q) X.xe { s3 with heap := s3.heap.push { cls := .type "slice", data := .fields #[vl, vu, .none] } }
  exact tail_any (ops := [.ref s3.heap.objs.size, v]) ht hT hg (by with_unfolding_all rfl)

/-- the items of xs[lo:hi] -/
def cutV (xs : List V) (lo hi : Option Int) : List V := (xs.drop (HT.sIx xs.length 0 lo)).take (HT.sIx xs.length xs.length hi - HT.sIx xs.length 0 lo)
theorem cutV_length (xs : List V) (lo hi : Option Int) : (cutV xs lo hi).length ≤ xs.length := by
  unfold cutV
  rw [List.length_take, List.length_drop]
  omega
/-- t[lo:hi], not the whole of it (the whole would be t itself) -/
def rSlT (K : PySem.W.Frag) : V → Option Int → Option Int → Hp → VK → Prop := fun x lo hi H Q => ∃ a xs, x = .ref a ∧ SqT K H a xs ∧
  ¬ (HT.sIx xs.length 0 lo = 0 ∧ HT.sIx xs.length xs.length hi = xs.length) ∧ ∀ p, H p = none → Q (.ref p) (upd H p (.tup (cutV xs lo hi)))
theorem sl_tup : SlR X (rSlT X.K) := by
  intro pins s σ H x v vl vu lo hi sl Q I rx hs pl pu h
  obtain ⟨a, xs, rfl, hx, hw, q⟩ := h
  cases rx
  obtain ⟨its, r, ht, hz⟩ := I.tuple hx
  have hlen : its.toArray.size = xs.length := by rw [List.size_toArray]; exact r.length.symm
  refine ⟨"tuple", _, PyProof.Rows.slot_tuple_getitem.lookup, ht.typeIs, ?_⟩
  refine HT.getItem_tuple_cut ht hs pl pu (by rw [hlen]; exact hw) ?_ (by rw [hlen]; exact hz)
  rw [hlen]
  refine ⟨.ref s.heap.objs.size, _, I.laid (t' := s.toks) (o := .tup (cutV xs lo hi)) (fun b ob q => Heap.get?_push_of_some _ q) (Nat.le_refl _) ?_, rfl, q _ (I.hok.fresh (Nat.le_refl _))⟩
  exact ⟨Nat.le_trans (cutV_length xs lo hi) hz, _, (r.drop (HT.sIx xs.length 0 lo)).take (HT.sIx xs.length xs.length hi - HT.sIx xs.length 0 lo), IsTup.new _ _⟩

/-! ### t < u, t + u -/
end
end L2

namespace L2
open PySem PySem.Spec PyProof.Rows

/-! ### places -/
/-- the place that an index of any sign means -/
def ixN (n : Nat) (i : Int) : Option Nat := if 0 ≤ i then (if i < n then some i.toNat else none) else if -(n : Int) ≤ i then some (i + n).toNat else none
def atI {α : Type} (xs : List α) (i : Int) : Option α := (ixN xs.length i).bind fun j => xs[j]?
theorem ixN_seq {n : Nat} {i : Int} {j : Nat} (h : ixN n i = some j) : seqIndex? i n = some j ∧ j < n ∧ -(n : Int) ≤ i ∧ i < n := by
  unfold ixN at h
  by_cases h0 : 0 ≤ i
  · rw [if_pos h0] at h
    by_cases h1 : i < n
    · rw [if_pos h1] at h
      have e : i.toNat = j := Option.some.inj h
      exact ⟨by rw [seqIndex_of h0 h1, e], by omega, by omega, h1⟩
    · rw [if_neg h1] at h; cases h
  · rw [if_neg h0] at h
    by_cases h1 : -(n : Int) ≤ i
    · rw [if_pos h1] at h
      have e : (i + n).toNat = j := Option.some.inj h
      exact ⟨by rw [seqIndex_neg (by omega) h1, e], by omega, h1, by omega⟩
    · rw [if_neg h1] at h; cases h
theorem atI_get {α : Type} {xs : List α} {i : Int} {v : α} (h : atI xs i = some v) : ∃ j, seqIndex? i xs.length = some j ∧ xs[j]? = some v ∧ j < xs.length ∧ -(xs.length : Int) ≤ i ∧ i < xs.length := by
  unfold atI at h
  cases e : ixN xs.length i with
  | none => rw [e] at h; cases h
  | some j =>
    rw [e] at h
    obtain ⟨h1, h2, h3, h4⟩ := ixN_seq e
    exact ⟨j, h1, h, h2, h3, h4⟩
theorem atI_nat {α : Type} {xs : List α} {j : Nat} {v : α} (h : xs[j]? = some v) : atI xs (j : Int) = some v := by
  have hj : j < xs.length := (List.getElem?_eq_some_iff.mp h).1
  have e : ixN xs.length (j : Int) = some j := by
    unfold ixN
    rw [if_pos (by omega), if_pos (by omega)]; simp
  unfold atI; rw [e]; exact h
/-! ### what may be subscripted -/
/-- what stands as an index of a plain subscript -/
def PlainIx (b : Expr) : Prop := ∀ o i, subscripted b false o i = operate [o, i] (getItem o i)
/-- a subscript by values -/
def IxR (X : Cx) (r : R2) : Prop :=
  ∀ (value slice : Expr) (pins : List (Addr × Obj)) (s : Shared) (σ : St) (H : Hp) (x y : V) (v u : Value) (Q : VK), Inv X pins σ H s → RelV x v → RelV y u → r x y H Q →
    subscripted slice false v u = operate [v, u] (getItem v u) → wpAny (model X.prog X.w) X.A (subscriptTail value slice v u) (EP X pins σ Q) X.xe s
/-- a call of a builtin's method by values: the receiver, the arguments -/
def MtR (X : Cx) (id : String) (r : V → List V → Hp → VK → Prop) : Prop :=
  ∀ (pins : List (Addr × Obj)) (s : Shared) (σ : St) (H : Hp) (x : V) (xs : List V) (v : Value) (us : List Value) (Q : VK), Inv X pins σ H s → RelV x v → Vals xs us → r x xs H Q →
    wpAny (model X.prog X.w) X.A (call (.builtin id) (v :: us)) (EP X pins σ Q) X.xe s
section
variable {X : Cx} {a b : Expr} {ta tb : TE} {pos : Pos}
/-- a[b] -/
theorem pe_ix {r : R2} (hr : IxR X r) (ha : PE X a ta) (hb : PE X b tb) (hs : PlainIx b) : PE X (.Subscript a b pos) (tOp r ta tb) := by
  intro pins s σ H Q I h
  exact Subscript_ (binT ha hb I h fun v u s2 x y H2 I2 rx ry q => hr a b pins s2 σ H2 x y v u Q I2 rx ry q (hs _ _))

def rIxL (K : PySem.W.Frag) : R2 := fun x y H Q => ∃ p xs i v, x = .ref p ∧ y = .int i ∧ SqL K H p xs ∧ atI xs i = some v ∧ Q v H
def rIxT (K : PySem.W.Frag) : R2 := fun x y H Q => ∃ p xs i v, x = .ref p ∧ y = .int i ∧ SqT K H p xs ∧ atI xs i = some v ∧ Q v H
def rIxS : R2 := fun x y H Q => ∃ z i c, x = .str z ∧ y = .int i ∧ z.length ≤ sizeLine ∧ atI z.cps.toList i = some c ∧ Q (.str ⟨#[c]⟩) H
theorem ix_list : IxR X (rIxL X.K) := by
  intro value slice pins s σ H x y v u Q I rx ry h hs
  obtain ⟨p, xs, i, z, rfl, rfl, hq, he, q⟩ := h
  cases rx
  obtain ⟨t, rfl⟩ := ry
  obtain ⟨its, r, pl, hz⟩ := I.list hq
  obtain ⟨j, h1, h2, h3, h4, h5⟩ := atI_get he
  obtain ⟨w, ew, rw'⟩ := r.get h2
  have hl := r.length
  have hn := line63
  have fin : EP X pins σ Q w s := ⟨z, H, I, rw', q⟩
  by_cases h0 : 0 ≤ i
  · have hj : i.toNat = j := by
      rw [seqIndex_of h0 h5] at h1
      exact Option.some.inj h1
    exact item_listR pl.isList h0 (by omega) (by rw [hj]; simpa using ew) fin hs
  · have hj : (i + (its.toArray.size : Int)).toNat = j := by
      rw [seqIndex_neg (by omega) h4] at h1
      rw [List.size_toArray, ← hl]
      exact Option.some.inj h1
    exact subscriptTail_builtinR (x := w) pl.isList.typeIs slot_list_getitem.lookup
      (wpAny_getItem_list_neg (Q := fun r s' => r = w ∧ EP X pins σ Q r s') pl.isList (by omega) (by rw [List.size_toArray] <;> omega) (by omega) (by rw [hj]; simpa using ew) ⟨rfl, fin⟩) hs
theorem ix_tup : IxR X (rIxT X.K) := by
  intro value slice pins s σ H x y v u Q I rx ry h hs
  obtain ⟨p, xs, i, z, rfl, rfl, hq, he, q⟩ := h
  cases rx
  obtain ⟨t, rfl⟩ := ry
  obtain ⟨its, r, pl, hz⟩ := I.tuple hq
  obtain ⟨j, h1, h2, h3, h4, h5⟩ := atI_get he
  obtain ⟨w, ew, rw'⟩ := r.get h2
  have hl := r.length
  have hn := line63
  have fin : EP X pins σ Q w s := ⟨z, H, I, rw', q⟩
  exact subscriptTail_builtinR (x := w) pl.typeIs slot_tuple_getitem.lookup
    (getItem_tuple (j := j) (Q := fun r s' => r = w ∧ EP X pins σ Q r s') pl (by omega) (by omega) (by rw [List.size_toArray, ← hl]; exact h1) (by simpa using ew) ⟨rfl, fin⟩) hs
theorem ix_str : IxR X rIxS := by
  intro value slice pins s σ H x y v u Q I rx ry h hs
  obtain ⟨z, i, c, rfl, rfl, hz, he, q⟩ := h
  obtain ⟨t, rfl⟩ := rx
  obtain ⟨t', rfl⟩ := ry
  obtain ⟨j, h1, h2, h3, h4, h5⟩ := atI_get he
  have hl : z.cps.toList.length = z.length := by simp [Str.length]
  rw [hl] at h1 h4 h5
  have hn := line63
  exact tail_any (typeIs_str s z t) slot_str_getitem.lookup (getItem_str (c := c) (by
    have e1 : decide (i < -(2 ^ 63 : Int)) = false := decide_eq_false (by omega)
    have e2 : decide (i ≥ 2 ^ 63) = false := decide_eq_false (by omega)
    rw [e1, e2, Bool.or_false]) (by rw [h1]; simpa using h2) ⟨.str ⟨#[c]⟩, H, I.tok _, ⟨_, rfl⟩, q⟩) hs
/-! ### xs[i] = v, any sign -/
/-- the list's object behind a store -/
theorem mapSeq_set (its : List Value) (n j : Nat) (u : Value) : Obj.mapSeq (·.setIfInBounds j u) { cls := .type "list", data := .seq its.toArray n } = { cls := .type "list", data := .seq (its.set j u).toArray n } := by
  simp [Obj.mapSeq]
theorem Inv.lst {pins : List (Addr × Obj)} {σ : St} {H : Hp} {s : Shared} {p : Addr} {xs : List V} (I : Inv X pins σ H s) (h : H p = some (.lst xs)) :
    ∃ (its : List Value) (n : Nat), Vals xs its ∧ s.heap.get? p = some { cls := .type "list", data := .seq its.toArray n } ∧ xs.length ≤ sizeLine := by
  obtain ⟨z, its, n, r, e⟩ := I.hok p _ h
  exact ⟨its, n, r, e, z⟩
/-- the list at p is written by an update of its object -/
theorem Inv.lstUpd {pins : List (Addr × Obj)} {σ : St} {H : Hp} {s : Shared} {p : Addr} {xs ys : List V} {its its' : List Value} {n n' : Nat} {f : Obj → Obj} (I : Inv X pins σ H s) (h : H p = some (.lst xs))
    (ho : s.heap.get? p = some { cls := .type "list", data := .seq its.toArray n }) (hf : f { cls := .type "list", data := .seq its.toArray n } = { cls := .type "list", data := .seq its'.toArray n' }) (r : Vals ys its') (hz : ys.length ≤ sizeLine) (t : Nat) :
    Inv X pins σ (upd H p (.lst ys)) { s with heap := s.heap.update p f, toks := t } := by
  have e : (s.heap.update p f).get? p = some { cls := .type "list", data := .seq its'.toArray n' } := by
    rw [Heap.get?_update_self f ho (by rw [hf] <;> rfl), hf]
  refine I.write (x := p) (e := p) (by rw [h]; trivial) (.inl rfl) (fun b u hb q => (Heap.get?_update_other _ _ (Ne.symm hb)).trans q) ⟨_, e⟩ ?_
  exact ⟨hz, its', n', r, e⟩
def rSetL : V → V → V → Hp → (Hp → Prop) → Prop := fun o i v H Q => ∃ p xs k j, o = .ref p ∧ i = .int k ∧ H p = some (.lst xs) ∧ ixN xs.length k = some j ∧ Q (upd H p (.lst (xs.set j v)))
theorem set_list : PSet X rSetL := by
  intro pins s σ H o i v ov iv u Q I ro ri rv h
  obtain ⟨p, xs, k, j, rfl, rfl, hp, hj, q⟩ := h
  cases ro
  obtain ⟨t, rfl⟩ := ri
  obtain ⟨its, n, r, ho, hz⟩ := I.lst hp
  obtain ⟨h1, h2, h3, h4⟩ := ixN_seq hj
  have hl := r.length
  have hn := line63
  have I' : Inv X pins σ (upd H p (.lst (xs.set j v))) { s with heap := s.heap.update p (Obj.mapSeq (·.setIfInBounds j u)) } :=
    I.lstUpd hp ho (mapSeq_set its n j u) (r.set rv j) (by rw [List.length_set]; exact hz) s.toks
  by_cases h0 : 0 ≤ k
  · have hk : k.toNat = j := by
      rw [seqIndex_of h0 h4] at h1
      exact Option.some.inj h1
    exact PySem.W.ki_setAt ho h0 (by omega) (by rw [List.size_toArray, ← hl]; exact h4) (by rw [hk]; exact ⟨_, I', q⟩)
  · have hk : (k + (its.toArray.size : Int)).toNat = j := by
      rw [seqIndex_neg (by omega) h3] at h1
      rw [List.size_toArray, ← hl]
      exact Option.some.inj h1
    exact PySem.W.ki_setBack ho (by omega) (by rw [List.size_toArray, ← hl]; exact h3) (by omega) (by rw [hk]; exact ⟨_, I', q⟩)

/-! ### slices -/
theorem slice_bounds (lo hi : Option Int) (n : Nat) : (sliceBounds lo hi none n).1 = ((HT.sIx n 0 lo : Nat) : Int) ∧ (sliceBounds lo hi none n).2.1 = ((HT.sIx n n hi : Nat) : Int) ∧ (sliceBounds lo hi none n).2.2 = 1 := by
  refine ⟨?_, ?_, rfl⟩
  · cases lo with
    | none => simp [sliceBounds, HT.sIx]
    | some i =>
      simp only [sliceBounds, HT.sIx, Option.getD_none, show (1 : Int) > 0 by decide, if_true]
      by_cases h : i < 0
      · simp only [h, if_true] <;> omega
      · simp only [h, if_false] <;> omega
  · cases hi with
    | none => simp [sliceBounds, HT.sIx]
    | some i =>
      simp only [sliceBounds, HT.sIx, Option.getD_none, show (1 : Int) > 0 by decide, if_true]
      by_cases h : i < 0
      · simp only [h, if_true] <;> omega
      · simp only [h, if_false] <;> omega
theorem slicePick_cut (its : List Value) (lo hi : Option Int) : slicePick its.toArray lo hi none = ((its.drop (HT.sIx its.length 0 lo)).take (HT.sIx its.length its.length hi - HT.sIx its.length 0 lo)).toArray := by
  obtain ⟨h1, h2, h3⟩ := slice_bounds lo hi its.toArray.size
  unfold slicePick
  rw [h1, h2, h3]
  simp only [sliceRange_one, pick_run, List.size_toArray] <;> rfl
/-- xs[lo:hi] of a list: a new list -/
def rSlL (K : PySem.W.Frag) : V → Option Int → Option Int → Hp → VK → Prop := fun x lo hi H Q => ∃ a xs, x = .ref a ∧ SqL K H a xs ∧ ∀ p, H p = none → Q (.ref p) (upd H p (.lst (cutV xs lo hi)))
theorem sl_list : SlR X (rSlL X.K) := by
  intro pins s σ H x v vl vu lo hi sl Q I rx hs pl pu h
  obtain ⟨a, xs, rfl, hx, q⟩ := h
  cases rx
  obtain ⟨its, r, ht, hz⟩ := I.list hx
  have hlen := r.length
  refine ⟨"list", _, slot_list_getitem.lookup, ht.isList.typeIs, ?_⟩
  refine wpAny_getItem_list_slice ht.isList hs pl pu .none (by simp) ?_ (by rw [List.size_toArray] <;> omega)
  rw [slicePick_cut, ← hlen]
  refine ⟨.ref s.heap.objs.size, _, I.laid (t' := s.toks) (o := .lst (cutV xs lo hi)) (fun b ob q => Heap.get?_push_of_some _ q) (Nat.le_refl _) ?_, rfl, q _ (I.hok.fresh (Nat.le_refl _))⟩
  exact ⟨Nat.le_trans (cutV_length xs lo hi) hz, _, 0, (r.drop (HT.sIx xs.length 0 lo)).take (HT.sIx xs.length xs.length hi - HT.sIx xs.length 0 lo), Heap.get?_push_size _ rfl⟩

/-! ### in, not in: flat items -/
def flatV : V → Bool
  | .non => true
  | .bl _ => true
  | .int _ => true
  | .str _ => true
  | _ => false
/-- == of flat values -/
def eqV : V → V → Bool
  | .non, .non => true
  | .bl a, .bl b => a == b
  | .bl a, .int b => (if a then 1 else 0) == b
  | .int a, .bl b => a == (if b then 1 else 0)
  | .int a, .int b => a == b
  | .str a, .str b => a == b
  | _, _ => false
theorem eqAt_V {A : Around} {s : Shared} {y x : V} {u v : Value} (ry : RelV y u) (rx : RelV x v) (fy : flatV y = true) (fx : flatV x = true) : SeqAt.EqAt A s u v (eqV y x) := by
  cases y with
  | non =>
    cases ry
    cases x with
    | non => cases rx; exact SeqAt.EqAt.same _
    | bl b => cases rx; exact SeqAt.EqAt.none_bool b
    | int b => obtain ⟨t, rfl⟩ := rx; exact SeqAt.EqAt.none_int b t
    | str b => obtain ⟨t, rfl⟩ := rx; exact SeqAt.EqAt.none_str b t
    | _ => exact absurd (show false = true from fx) Bool.false_ne_true
  | bl a =>
    cases ry
    cases x with
    | non => cases rx; exact SeqAt.EqAt.bool_none a
    | bl b => cases rx; exact SeqAt.EqAt.bool_bool a b
    | int b => obtain ⟨t, rfl⟩ := rx; exact SeqAt.EqAt.bool_int a b t
    | str b => obtain ⟨t, rfl⟩ := rx; exact SeqAt.EqAt.bool_str a b t
    | _ => exact absurd (show false = true from fx) Bool.false_ne_true
  | int a =>
    obtain ⟨t', rfl⟩ := ry
    cases x with
    | non => cases rx; exact SeqAt.EqAt.int_none a t'
    | bl b => cases rx; exact SeqAt.EqAt.int_bool a t' b
    | int b => obtain ⟨t, rfl⟩ := rx; exact SeqAt.EqAt.int_int a t' b t
    | str b => obtain ⟨t, rfl⟩ := rx; exact SeqAt.EqAt.int_str a t' b t
    | _ => exact absurd (show false = true from fx) Bool.false_ne_true
  | str a =>
    obtain ⟨t', rfl⟩ := ry
    cases x with
    | non => cases rx; exact SeqAt.EqAt.str_none a t'
    | bl b => cases rx; exact SeqAt.EqAt.str_bool a t' b
    | int b => obtain ⟨t, rfl⟩ := rx; exact SeqAt.EqAt.str_int a t' b t
    | str b => obtain ⟨t, rfl⟩ := rx; exact SeqAt.EqAt.str_str a t' b t
    | _ => exact absurd (show false = true from fx) Bool.false_ne_true
  | _ => exact absurd (show false = true from fy) Bool.false_ne_true
/-! ### len, list(x), tuple(x) of any list or tuple that is read -/
theorem call_len_seq : CallR X (.builtin "len") (fun xs H Q => ∃ p ys, xs = [.ref p] ∧ (SqL X.K H p ys ∨ SqT X.K H p ys) ∧ Q (.int ys.length) H) := by
  intro pins s σ H xs us Q I r h
  obtain ⟨p, ys, rfl, hq, q⟩ := h
  obtain ⟨u, rfl, rx⟩ := vals1 r
  cases rx
  have hn := line63
  rcases hq with hq | hq
  · obtain ⟨its, r', pl, hz⟩ := I.list hq
    have hlen := r'.length
    exact Calls.call_len_list pl.isList (by simp only [List.size_toArray] <;> omega) ⟨.int ys.length, H, I.tok _, ⟨s.toks + 1, by rw [List.size_toArray, hlen]⟩, q⟩
  · obtain ⟨its, r', pl, hz⟩ := I.tuple hq
    have hlen := r'.length
    exact len_tuple pl (by simp only [List.size_toArray] <;> omega) ⟨.int ys.length, H, I.tok _, ⟨s.toks + 1, by rw [List.size_toArray, hlen]⟩, q⟩
theorem call_len_str : CallR X (.builtin "len") (fun xs H Q => ∃ z, xs = [.str z] ∧ z.length ≤ sizeLine ∧ Q (.int z.length) H) := by
  intro pins s σ H xs us Q I r h
  obtain ⟨z, rfl, hz, q⟩ := h
  obtain ⟨u, rfl, t, rfl⟩ := vals1 r
  have hn := line63
  exact len_str (by omega) ⟨.int z.length, H, I.tok _, ⟨_, rfl⟩, q⟩
theorem call_list_of : CallR X (.type "list") (fun xs H Q => ∃ p ys, xs = [.ref p] ∧ (SqL X.K H p ys ∨ SqT X.K H p ys) ∧ ∀ l, H l = none → Q (.ref l) (upd H l (.lst ys))) := by
  intro pins s σ H xs us Q I r h
  obtain ⟨p, ys, rfl, hq, q⟩ := h
  obtain ⟨u, rfl, rx⟩ := vals1 r
  cases rx
  have fin : ∀ (its : List Value), Vals ys its → ys.length ≤ sizeLine → ∀ (h' : Heap) (c' : Nat), (∀ b o', s.heap.get? b = some o' → h'.get? b = some o') →
      h'.get? s.heap.objs.size = some { cls := .type "list", dict := none, data := .seq its.toArray c', slots := #[] } → EP X pins σ Q (.ref s.heap.objs.size) { s with heap := h' } := fun its r' hz h' c' kp e =>
    ⟨.ref s.heap.objs.size, _, I.laid (t' := s.toks) kp (Nat.le_refl _) (show ObjOk X.prog X.w _ h' _ (.lst ys) from ⟨hz, its, c', r', e⟩), rfl, q _ (I.hok.fresh (Nat.le_refl _))⟩
  rcases hq with hq | hq
  · obtain ⟨its, r', pl, hz⟩ := I.list hq
    have hlen := r'.length
    obtain ⟨o, ho, hc, n, hd⟩ := pl.isList
    exact call_list_seq p (.inl rfl) ho hc hd (fun h' c' kp e => fin its r' hz h' c' kp e) (by simp only [List.size_toArray] <;> omega)
  · obtain ⟨its, r', pl, hz⟩ := I.tuple hq
    have hlen := r'.length
    obtain ⟨o, ho, hc, n, hd⟩ := pl
    exact call_list_seq p (.inr rfl) ho hc hd (fun h' c' kp e => fin its r' hz h' c' kp e) (by simp only [List.size_toArray] <;> omega)
theorem call_tuple_of : CallR X (.type "tuple") (fun xs H Q => ∃ p ys, xs = [.ref p] ∧ ((SqL X.K H p ys ∧ ∀ l, H l = none → Q (.ref l) (upd H l (.tup ys))) ∨ (SqT X.K H p ys ∧ Q (.ref p) H))) := by
  intro pins s σ H xs us Q I r h
  obtain ⟨p, ys, rfl, h⟩ := h
  obtain ⟨u, rfl, rx⟩ := vals1 r
  cases rx
  rcases h with ⟨hq, q⟩ | ⟨hq, q⟩
  · obtain ⟨its, r', pl, hz⟩ := I.list hq
    have hlen := r'.length
    refine call_tuple_list pl.isList (fun h' kp => ?_) (by simp only [List.size_toArray] <;> omega)
    have I1 : Inv X pins σ H { s with heap := h' } := I.kept (t' := s.toks) kp
    have I2 : Inv X pins σ (upd H h'.objs.size (.tup ys)) { s with heap := h'.push { cls := .type "tuple", data := .seq its.toArray } } :=
      I1.laid (t' := s.toks) (fun b o e => Heap.get?_push_of_some _ e) (Nat.le_refl _) (show ObjOk X.prog X.w _ _ _ (.tup ys) from ⟨hz, its, r', IsTup.new _ _⟩)
    exact ⟨.ref h'.objs.size, _, I2, rfl, q _ (I1.hok.fresh (Nat.le_refl _))⟩
  · obtain ⟨its, r', pl, hz⟩ := I.tuple hq
    exact call_tuple_same pl ⟨.ref p, H, I, rfl, q⟩

/-! ### the call of a builtin's method: o.m(..) -/
/-- the value is of that builtin type -/
def tyV (K : PySem.W.Frag) (T : String) (x : V) (H : Hp) : Prop := match x with
  | .str _ => T = "str"
  | .int _ => T = "int"
  | .ref p => (T = "list" ∧ ∃ xs, SqL K H p xs) ∨ (T = "tuple" ∧ ∃ o, K.lookup p = some o ∧ o.cls = .type "tuple" ∧ o.dict = none) ∨
      (T = "dict" ∧ ((∃ kvs, H p = some (.dK kvs)) ∨ ∃ kvs, H p = some (.dT kvs))) ∨ (T = "set" ∧ ∃ S n, H p = some (.set S n))
  | _ => False
theorem tyV_is {pins : List (Addr × Obj)} {σ : St} {H : Hp} {s : Shared} {T : String} {x : V} {v : Value} (I : Inv X pins σ H s) (r : RelV x v) (ty : tyV X.K T x H) :
    s.TypeIs v T ∧ ∀ a, v = .ref a → ∃ ob, s.heap.get? a = some ob ∧ ob.dict = none := by
  cases x with
  | str z =>
    obtain ⟨t, rfl⟩ := r
    cases (show T = "str" from ty)
    exact ⟨typeIs_str s z t, fun _ e => nomatch e⟩
  | int i =>
    obtain ⟨t, rfl⟩ := r
    cases (show T = "int" from ty)
    exact ⟨typeIs_int s i t, fun _ e => nomatch e⟩
  | ref p =>
    cases r
    rcases ty with ⟨rfl, xs, hq⟩ | ⟨rfl, o, hk, hc, hd⟩ | ⟨rfl, hk⟩ | ⟨rfl, S, n, hk⟩
    · obtain ⟨its, _, pl, _⟩ := I.list hq
      refine ⟨pl.isList.typeIs, fun a e => ?_⟩
      cases e
      obtain ⟨o, n, e, c, hd, _⟩ := pl
      exact ⟨o, e, hd⟩
    · refine ⟨⟨o, I.kIn p o hk, hc⟩, fun a e => ?_⟩
      cases e
      exact ⟨o, I.kIn _ o hk, hd⟩
    · have z : ∃ o, s.heap.get? p = some o ∧ o.ExactDict := by
        rcases hk with ⟨kvs, hk⟩ | ⟨kvs, hk⟩
        · obtain ⟨_, _, _, _, o, _, _, e, ex, _⟩ := I.hok p _ hk
          exact ⟨o, e, ex⟩
        · obtain ⟨_, _, _, _, o, _, _, e, ex, _⟩ := I.hok p _ hk
          exact ⟨o, e, ex⟩
      obtain ⟨o, e, ex⟩ := z
      refine ⟨⟨o, e, ex.1⟩, fun a e2 => ?_⟩
      cases e2
      exact ⟨o, e, ex.2.1⟩
    · obtain ⟨o, _, _, _, e, ex, _⟩ := I.hok p _ hk
      refine ⟨⟨o, e, ex.1⟩, fun a e2 => ?_⟩
      cases e2
      exact ⟨o, e, ex.2.1⟩
  | _ => exact False.elim ty
variable {o e : Expr} {es : List Expr} {to : TE} {t : TA} {name : Str} {apos cpos : Pos} {T id : String} {r : V → List V → Hp → VK → Prop}
/- xs.append(e), list.index on a module's tuple .. are MtR facts of 06m -/
end
end L2

namespace L2
open PySem PySem.Spec PyProof.Rows

def MtM (X : Cx) (id : String) (r : V → List V → Hp → VK → Prop) : Prop :=
  ∀ (pins : List (Addr × Obj)) (s : Shared) (σ : St) (H : Hp) (x : V) (xs : List V) (v : Value) (us : List Value) (Q : VK), Inv X pins σ H s → RelV x v → Vals xs us → r x xs H Q →
    wpAny (model X.prog X.w) X.A (call (.builtin id) (v :: us)) (EP X pins σ Q) X.xe s

/-! ### lists of values -/
theorem Vals.one : ∀ {x : V} {us : List Value}, Vals [x] us → ∃ u, us = [u] ∧ RelV x u
  | _, _, .cons r .nil => ⟨_, rfl, r⟩
theorem Vals.zero : ∀ {us : List Value}, Vals [] us → us = []
  | _, .nil => rfl
theorem Vals.dropLast {xs : List V} {us : List Value} (h : Vals xs us) : Vals xs.dropLast us.dropLast := by
  induction h with
  | nil => exact .nil
  | cons r t ih =>
    cases t with
    | nil => exact .nil
    | cons q t' => exact .cons r ih
theorem Vals.reverse {xs : List V} {us : List Value} (h : Vals xs us) : Vals xs.reverse us.reverse := by
  induction h with
  | nil => exact .nil
  | cons r t ih => rw [List.reverse_cons, List.reverse_cons]; exact Vals.append ih (.cons r .nil)
theorem Vals.rep {xs : List V} {us : List Value} (h : Vals xs us) : ∀ k : Nat, Vals (List.replicate k xs).flatten (List.replicate k us).flatten
  | 0 => .nil
  | k + 1 => by
    rw [List.replicate_succ, List.replicate_succ, List.flatten_cons, List.flatten_cons]
    exact Vals.append h (Vals.rep h k)
theorem erase_last {α : Type} (l : List α) : l.eraseIdx (l.length - 1) = l.dropLast := by
  induction l with
  | nil => rfl
  | cons a r ih =>
    cases r with
    | nil => rfl
    | cons b r =>
      have e : (a :: b :: r).length - 1 = ((b :: r).length - 1) + 1 := by
        have h1 : (a :: b :: r).length = r.length + 2 := rfl
        have h2 : (b :: r).length = r.length + 1 := rfl
        omega
      rw [e, List.eraseIdx_cons_succ, ih]
      all_goals rfl
theorem foldl_rep (its : List Value) : ∀ (k : Nat) (acc : List Value),
    List.foldl (fun x1 x2 => x1 ++ x2) acc.toArray (List.replicate k its.toArray) = (acc ++ (List.replicate k its).flatten).toArray
  | 0, acc => by simp
  | k + 1, acc => by
    have e : acc.toArray ++ its.toArray = (acc ++ its).toArray := by simp
    have e2 : (acc ++ its) ++ (List.replicate k its).flatten = acc ++ (List.replicate (k + 1) its).flatten := by
      rw [List.replicate_succ, List.flatten_cons, List.append_assoc]
    rw [← e2, ← foldl_rep its k (acc ++ its), ← e, List.replicate_succ, List.foldl_cons]

section
variable {X : Cx} {pins : List (Addr × Obj)} {σ : St} {H : Hp} {s : Shared} {l b : Addr} {xs ys zs : List V}

/-! ### the two steps: a tracked list is rewritten, a new list is laid -/
theorem Inv.lset {its its' : List Value} {n : Nat} {f : Array Value → Array Value} {t' : Nat} (I : Inv X pins σ H s) (hH : H l = some (.lst xs))
    (e : s.heap.get? l = some { cls := .type "list", data := .seq its.toArray n }) (hf : f its.toArray = its'.toArray) (hv : Vals ys its') (hz : ys.length ≤ sizeLine) :
    Inv X pins σ (upd H l (.lst ys)) { s with heap := s.heap.update l (Obj.mapSeq f), toks := t' } := by
  have q := PySem.IsL.update e f
  rw [hf] at q
  refine I.write (x := l) (e := l) (by rw [hH]; exact trivial) (.inl rfl) (fun b' u hb hu => (Heap.get?_update_other s.heap (Obj.mapSeq f) (Ne.symm hb)).trans hu) ⟨_, q⟩ ?_
  exact ⟨hz, its', _, hv, q⟩
theorem Inv.lnew {its : List Value} {t' : Nat} (I : Inv X pins σ H s) (hv : Vals ys its) (hz : ys.length ≤ sizeLine) :
    Inv X pins σ (upd H s.heap.objs.size (.lst ys)) { s with heap := s.heap.push { cls := .type "list", data := .seq its.toArray }, toks := t' } :=
  I.laid (fun _ _ q => Heap.get?_push_of_some _ q) (Nat.le_refl _) ⟨hz, its, 0, hv, Heap.get?_push_size _ rfl⟩
theorem Inv.fresh (I : Inv X pins σ H s) : H s.heap.objs.size = none := I.hok.fresh (Nat.le_refl _)
theorem Inv.lstM (I : Inv X pins σ H s) (hH : H l = some (.lst xs)) : xs.length ≤ sizeLine ∧ ∃ (its : List Value) (n : Nat), Vals xs its ∧ xs.length = its.length ∧ s.heap.get? l = some { cls := .type "list", data := .seq its.toArray n } := by
  obtain ⟨z, its, n, r, e⟩ := I.hok l _ hH
  exact ⟨z, its, n, r, r.length, e⟩

theorem notLongL {n : Nat} (h : n ≤ sizeLine) : Builtin.List.listTooLong n = false := by
  unfold Builtin.List.listTooLong
  exact decide_eq_false (by omega)
end

section
variable {X : Cx}

/-! ### methods -/
def rAppend : V → List V → Hp → VK → Prop := fun x vs H Q => ∃ l xs y, x = .ref l ∧ vs = [y] ∧ H l = some (.lst xs) ∧ xs.length < sizeLine ∧ Q .non (upd H l (.lst (xs ++ [y])))
theorem mt_append : MtM X "list.append" rAppend := by
  intro pins s σ H x vs v us Q I rx rv h
  obtain ⟨l, xs, y, rfl, rfl, hH, hz, q⟩ := h
  cases rx
  obtain ⟨u, rfl, ru⟩ := rv.one
  obtain ⟨z, its, n, r, hl, e⟩ := I.lstM hH
  refine call_meets F.slot_list_append ⟨_, e, rfl⟩ F.entry_list_append (F.args_list_append_2 _ _) (PySem.list_append l its.toArray n u (by rw [List.size_toArray]; omega)) ⟨e, ?_⟩
  refine ⟨.non, _, I.lset (its' := its ++ [u]) hH e (by simp) (r.append (.cons ru .nil)) ?_, rfl, q⟩
  rw [List.length_append, List.length_singleton]
  omega

def rExtend : V → List V → Hp → VK → Prop := fun x vs H Q => ∃ l b xs zs, x = .ref l ∧ vs = [.ref b] ∧ H l = some (.lst xs) ∧ H b = some (.lst zs) ∧ xs.length + zs.length ≤ sizeLine ∧ Q .non (upd H l (.lst (xs ++ zs)))
theorem mt_extend : MtM X "list.extend" rExtend := by
  intro pins s σ H x vs v us Q I rx rv h
  obtain ⟨l, b, xs, zs, rfl, rfl, hH, hB, hz, q⟩ := h
  cases rx
  obtain ⟨u, rfl, ru⟩ := rv.one
  cases ru
  obtain ⟨z, its, n, r, hl, e⟩ := I.lstM hH
  obtain ⟨z2, its2, n2, r2, hl2, e2⟩ := I.lstM hB
  have hsz : its.toArray.size + its2.toArray.size ≤ sizeLine := by rw [List.size_toArray, List.size_toArray]; omega
  have hlong : ¬ (!its.toArray.isEmpty && Builtin.List.listTooLong (its.toArray.size + its2.toArray.size)) = true := by
    rw [notLongL hsz, Bool.and_false]
    exact Bool.false_ne_true
  refine call_meets F.slot_list_extend ⟨_, e, rfl⟩ F.entry_list_extend (F.args_list_extend_2 _ _)
    (AutoSeq1.list_extend_list_list_0 l its.toArray n b its2.toArray n2 hlong (by rw [List.size_toArray]; omega) (by omega)) ⟨e, e2, ?_⟩
  refine ⟨.non, _, I.lset (its' := its ++ its2) hH e (by simp) (r.append r2) ?_, rfl, q⟩
  rw [List.length_append]
  omega

def rPop : V → List V → Hp → VK → Prop := fun x vs H Q => ∃ l xs y, x = .ref l ∧ vs = [] ∧ H l = some (.lst xs) ∧ xs[xs.length - 1]? = some y ∧ Q y (upd H l (.lst xs.dropLast))
theorem mt_pop : MtM X "list.pop" rPop := by
  intro pins s σ H x vs v us Q I rx rv h
  obtain ⟨l, xs, y, rfl, rfl, hH, hy, q⟩ := h
  cases rx
  have hus := rv.zero
  subst hus
  obtain ⟨z, its, n, r, hl, e⟩ := I.lstM hH
  obtain ⟨u, hu, ru⟩ := r.get hy
  have hy' : its.toArray[its.toArray.size - 1]? = some u := by
    show its.toArray[its.length - 1]? = some u
    rw [← Array.getElem?_toList, ← hl]
    exact hu
  refine call_meets F.slot_list_pop ⟨_, e, rfl⟩ F.entry_list_pop (F.args_list_pop_1 _) (MeetsSeq.list_pop_last l its.toArray n u hy' (by rw [List.size_toArray]; omega)) ⟨e, ?_⟩
  refine ⟨y, _, I.lset (its' := its.dropLast) hH e ?_ r.dropLast ?_, ru, q⟩
  · show its.toArray.eraseIdxIfInBounds (its.toArray.size - 1) = its.dropLast.toArray
    rw [List.size_toArray, List.eraseIdxIfInBounds_toArray, erase_last]
  · rw [List.length_dropLast]
    omega

/-! ### list + list, list += list, list * int -/
def rCat : R2 := fun x y H Q => ∃ l b xs zs, x = .ref l ∧ y = .ref b ∧ H l = some (.lst xs) ∧ H b = some (.lst zs) ∧ xs.length + zs.length ≤ sizeLine ∧ ∀ p, H p = none → Q (.ref p) (upd H p (.lst (xs ++ zs)))
theorem op_cat : OpR X (binaryOp .Add) rCat := by
  intro pins s σ H x y v u Q I rx ry h
  obtain ⟨l, b, xs, zs, rfl, rfl, hH, hB, hz, q⟩ := h
  cases rx
  cases ry
  obtain ⟨z, its, n, r, hl, e⟩ := I.lstM hH
  obtain ⟨z2, its2, n2, r2, hl2, e2⟩ := I.lstM hB
  refine PySem.P.add_list e e2 ?_ (by rw [List.size_toArray, List.size_toArray]; omega)
  have ea : its.toArray ++ its2.toArray = (its ++ its2).toArray := by simp
  rw [ea]
  exact ⟨.ref _, _, I.lnew (t' := s.toks) (r.append r2) (by rw [List.length_append]; omega), rfl, q _ I.fresh⟩
/-- a list times an int (a negative one is nothing) -/
def rRep : R2 := fun x y H Q => ∃ l k xs, x = .ref l ∧ y = .int k ∧ H l = some (.lst xs) ∧ -(2 ^ 63) ≤ k ∧ k < 2 ^ 63 ∧ xs.length * k.toNat ≤ sizeLine ∧
  ∀ p, H p = none → Q (.ref p) (upd H p (.lst (List.replicate k.toNat xs).flatten))
theorem len_rep {α : Type} (xs : List α) (k : Nat) : (List.replicate k xs).flatten.length = k * xs.length := by
  induction k with
  | zero => simp
  | succ k ih => rw [List.replicate_succ, List.flatten_cons, List.length_append, ih, Nat.succ_mul, Nat.add_comm]
theorem op_rep : OpR X (binaryOp .Mult) rRep := by
  intro pins s σ H x y v u Q I rx ry h
  obtain ⟨l, k, xs, rfl, rfl, hH, h1, h2, hz, q⟩ := h
  cases rx
  obtain ⟨t, rfl⟩ := ry
  obtain ⟨z, its, n, r, hl, e⟩ := I.lstM hH
  have hlen : its.toArray.size * k.toNat ≤ sizeLine := by rw [List.size_toArray, ← hl]; exact hz
  have hcap : ¬ its.toArray.size * k.toNat > (2 ^ 63 - 1) / 8 := by
    have : (sizeLine : Nat) ≤ (2 ^ 63 - 1) / 8 := by decide
    omega
  have hfit : ¬ (!Builtin.List.listFitsIndex k) = true := by
    rw [fitsIndex_both h1 h2]
    exact Bool.false_ne_true
  have hlong : ¬ Builtin.List.listTooLong (its.toArray.size * k.toNat) = true := by
    rw [notLongL hlen]
    exact Bool.false_ne_true
  have hnew : List.foldl (fun x1 x2 => x1 ++ x2) #[] (List.replicate (if its.toArray.isEmpty = true then 0 else k.toNat) its.toArray) = (List.replicate k.toNat its).flatten.toArray := by
    have f0 : ∀ m : Nat, List.foldl (fun x1 x2 => x1 ++ x2) #[] (List.replicate m its.toArray) = (List.replicate m its).flatten.toArray := fun m => by
      have := foldl_rep its m []
      rw [List.nil_append] at this
      exact this
    rw [f0]
    cases its with
    | nil => simp
    | cons a r' => rw [if_neg (by simp)]
  refine wpAny_binaryOp_repeat_ref (T := "list") (U := "int") (by decide) ⟨_, e, rfl⟩ (fun s' => typeIs_int s' k t) noFill_list_mul F.fills_int_mul F.slot_int_rmul repeat_list F.slot_int_index.lookup
    (call_meets F.slot_int_rmul (typeIs_int s k t) F.entry_int_rmul (F.args_int_rmul_2 _ _) (int___rmul___int_list k t l its.toArray n)
      ⟨e, rfl, ⟨_, e, rfl⟩, call_meets F.slot_list_mul ⟨_, e, rfl⟩ F.entry_list_mul (F.args_list_mul_2 _ _) (AutoListH.list___mul___list_int_3 l its.toArray n k t hfit hcap hlong) ⟨e, ?_⟩⟩)
  rw [hnew]
  exact ⟨.ref _, _, I.lnew (t' := s.toks) (r.rep k.toNat) (by rw [len_rep, Nat.mul_comm]; exact hz), rfl, q _ I.fresh⟩

/-! ### del xs[i] -/
end

/-! ### xs[a:b] = ys -/
section
variable {prog : Program} {w : World} {A : Around} {E : Value → Shared → Prop} {s : Shared}
end

section
variable {X : Cx}
end
end L2

namespace Att
open PySem PySem.W PySem.Calls PyProof.Rows

/-! ### the script -/
theorem ints_of_wellAll {P : Params} {h : Heap} : ∀ (ns : List Int) (vs : List Value), WellAll P h vs (ns.map WData.int) → IntsAre vs ns := by
  intro ns
  induction ns with
  | nil =>
    intro vs w
    rw [List.map_nil] at w
    cases w
    exact .nil
  | cons n ns ih =>
    intro vs w
    rw [List.map_cons] at w
    cases w with
    | cons a b =>
      cases a
      exact .cons _ _ (ih _ b)

theorem script_of {l : OpenLaw} {n : Nat} (hn : l.most = some n) {P : Params} {h : Heap} {args : List WData} {vals : List Value}
    (hpre : l.row.toRowW.claim.pre args = true) (hwl : WellAll P h vals args) :
    ∃ a vs ns, vals = [Value.ref a] ∧ args = [WData.list (ns.map WData.int)] ∧ h.get? a = some { cls := .type "list", data := .seq vs.toArray } ∧ IntsAre vs ns ∧ ns.length ≤ n := by
  have hsh : WShape.hasAll [] args [.list .int] = true := (pre_splitW hpre).1
  have hc : l.pre.holds [] { args := args } = true := (pre_splitW hpre).2
  obtain ⟨d, r, rfl, h1, h2⟩ := hasAllW_cons hsh
  obtain rfl := hasAllW_nil h2
  obtain ⟨xs, rfl, h3⟩ := hasW_list h1
  obtain ⟨ns, rfl⟩ := items_int h3
  have hlen : ns.length ≤ n := by
    unfold OpenLaw.pre at hc
    have h4 : (WTm.not (.lt (.lit (.int (n : Int))) (.len (.arg 0)))).holds [] { args := [.list (ns.map .int)] } = true := by
      have h4 := (holds_andW hc).1
      rw [hn] at h4
      exact h4
    have h5 := condW_of h4 (w_not (w_lt w_lit (w_len_list (w_arg rfl))))
    rw [List.length_map] at h5
    refine Nat.le_of_not_lt fun q => ?_
    have q' : (n : Int) < ((ns.length : Nat) : Int) := by omega
    first
      | (rw [decide_eq_true q'] at h5; exact absurd h5 (by decide))
      | (simp at h5; omega)
  cases hwl with
  | cons w1 w2 =>
    cases w2
    cases w1 with
    | list ho hall => exact ⟨_, _, ns, rfl, rfl, ho, ints_of_wellAll ns _ hall, hlen⟩

theorem post_true (l : OpenLaw) (args : List WData) : l.row.toRowW.claim.post args (.bool true) args = true :=
  postW_of (r := l.row.toRowW) (X := (true == true))
    (show WShape.has [] (.bool true) .bool = true by first | rfl | decide | simp [WShape.has, WShape.arms, WShape.armsAll])
    (show (WTm.eq .res (.lit (.bool true))).value [] { args := args, res := some (.bool true), after := args } = some (.bool (true == true)) from w_eq_bool (w_res rfl) w_lit) rfl

/-! ### the attachment: holds_open's last premise (the goal 'hc' behind k_head) from a wpAny of the law's body -/
/-- the same from a codeAny of the CALL (for a layer whose function contracts speak of calls) -/
theorem attach_call {l : OpenLaw} {n : Nat} {q : Program} {loose : List Str} {XP : (Str → Option Value) → Heap → Prop} {YP : World → Heap → Prop} {d : DefRec}
    (hn : l.most = some n) (hdf : d.params.defaults = [])
    (call : ∀ (w : World) (s₀ s₁ : Shared) (mg mb : Str → Option Value) (fa : Addr) (o : Obj) (pm cd doc : Value) (a : Addr) (vs : List Value) (ns : List Int),
      Ground q loose [] XP w s₀ mg mb s₁.heap → YP w s₁.heap →
      s₁.heap.get? fa = some o → o.data = .func (docDef d.name d.params d.body d.scope pm cd doc) → s₁.heap.CodeRec cd d.name → mg d.name = some (.ref fa) →
      s₁.heap.get? a = some { cls := .type "list", data := .seq vs.toArray } → IntsAre vs ns → ns.length ≤ n → s₁.gens = #[] →
      codeAny (model l.prog w) callerA (.call (.ref fa) ⟨[.ref a], []⟩) (fun r s' => r = .ok (.ret (.bool true)) ∧ OldK s₁.heap s'.heap ∧ s'.os = s₁.os ∧ AllBare s'.gens) s₁) :
    WalkO q loose XP YP l.row.toRowW d [] (fun f vs => PySem.call f vs) := by
  intro w s₀ s₁ mg mb G Y fa o pm cd doc dV kV ho hd hcd hD hmg hg args vals as hpre hlay hrd hwl hlo
  obtain rfl : dV = .none := Dflts.none hD hdf
  obtain rfl : kV = .none := Dflts.noKw hD
  obtain ⟨a, vs, ns, rfl, rfl, hobj, hints, hlen⟩ := script_of hn hpre hwl
  refine enter_call (codeAny_mono (call w s₀ s₁ mg mb fa o pm cd doc a vs ns G Y ho (fd_plain hd) hcd hmg hobj hints hlen hg) fun r s' hq => ?_)
  obtain ⟨rfl, h2, h3, h4⟩ := hq
  exact ⟨.inl ⟨.bool true, .bool true, [], rfl, fun _ => rfl, .bool true, post_true l _, fun _ => ⟨List.Pairwise.nil, fun _ hm => (nomatch hm)⟩⟩, h2, h3, h4⟩

/-! ### rules over ANY heap (no ledger) from facts about the written part K: the library's own take a ledger (News) for what they write -/
section
variable {prog : Program} {w : World} {A : Around} {E : Value → Shared → Prop} {s : Shared} {K : Frag}

/-! the whole heap as the ledger: makes every rule that writes through a ledger a rule over any heap -/
def ledger (h : Heap) (L d : Addr) : List (Addr × Obj) := (List.range h.objs.size).filterMap fun a => if a = L ∨ a = d then none else (h.get? a).map fun o => (a, o)
end
end Att

namespace L2
open PySem PySem.Spec PyProof.Rows

theorem vals_ints : ∀ {vs : List Value} {ns : List Int}, IntsAre vs ns → Vals (ns.map V.int) vs
  | _, _, .nil => .nil
  | _, _, .cons n t h => .cons ⟨t, rfl⟩ (vals_ints h)

/-- nothing is tracked but the script, known to the object (or it is an object of the module) -/
def Only (H : Hp) : Prop := ∀ b, H b = none ∨ ∃ o xs, H b = some (.frz o (.lst xs))

/-- THE HEAD: the law's promise, at the heap behind the top. F, the promise of the law's def, may use that base is part of the heap (so K.In base, base.Ns mainGlobals mg stand in Mod) -/
theorem law_call {P : Program} {w : World} {K : PySem.W.Frag} {mg mb : Str → Option Value} {CX : CXT} {k : Nat} {fa a : Addr} {fd : FuncData} {x : Str} {sp : Sp} {s₁ : Shared} {vs : List Value} {ns : List Int}
    (KX : K.In s₁.heap) (hns : s₁.heap.Ns mainGlobals mg) (hb : s₁.heap.Ns builtinsNs mb) (hbb : ∀ x : Str, x ≠ "__name__" → mb x = bootBuiltins x) (hlim : s₁.heap.NoLimit) (hg : s₁.gens = #[])
    (ha : s₁.heap.get? a = some { cls := .type "list", data := .seq vs.toArray }) (hi : IntsAre vs ns) (hl : ns.length ≤ sizeLine) (hr : Room k callerA)
    (F : ∀ base : Heap, K.In base → base.Ns mainGlobals mg → FnOk P w K mg base CX k fa fd [x] sp) (hbind : ∀ (s : Shared) (u : Value), BindsTo s fd ⟨[u], []⟩ [(x, u)])
    (hsp : ∀ H : Hp, Only H → SqL K H a (ns.map V.int) → sp [.ref a] H (fun v _ => v = .bl true) fun _ _ _ => False)
    (hCX : ∀ H e s', CX [] H s₁ (fun _ _ _ => False) e s' → False) :
    codeAny (model P w) callerA (.call (.ref fa) ⟨[.ref a], []⟩) (fun r s' => r = .ok (.ret (.bool true)) ∧ OldK s₁.heap s'.heap ∧ s'.os = s₁.os ∧ AllBare s'.gens) s₁ := by
  have rv := vals_ints hi
  have lenV := hi.length
  -- from an abstract heap in which nothing but the script may be tracked
  have core : ∀ H : Hp, Only H → SqL K H a (ns.map V.int) → HOk P w H s₁.heap → (∀ b, H b ≠ none → b = a) → (H a ≠ none → K.lookup a = none) →
      codeAny (model P w) callerA (.call (.ref fa) ⟨[.ref a], []⟩) (fun r s' => r = .ok (.ret (.bool true)) ∧ OldK s₁.heap s'.heap ∧ s'.os = s₁.os ∧ AllBare s'.gens) s₁ := by
    intro H hO hS hok hA hK
    have base_of : ∀ {b : Addr} {o : Obj}, s₁.heap.get? b = some o → H b = none → (hidT s₁.heap H).get? b = some o := fun e n => hidT_get e n
    have noA : ∀ {b : Addr} {o : Obj} {es : Array DictEntry} {ep : Nat}, s₁.heap.get? b = some o → o.data = .dict es ep → H b = none := fun {b o es ep} e d => by
      cases q : H b with
      | none => rfl
      | some u =>
        have e' : b = a := hA b (by rw [q]; simp)
        subst e'
        rw [ha] at e; cases e
        have d' : Data.seq vs.toArray _ = Data.dict es ep := d
        cases d'
    have nsK : ∀ {b : Addr} {m : Str → Option Value}, s₁.heap.Ns b m → (hidT s₁.heap H).Ns b m := fun {b m} ⟨o, es, ep, e, d, r⟩ => ⟨o, es, ep, base_of e (noA e d), d, r⟩
    have hKb : K.In (hidT s₁.heap H) := fun b o e => base_of (KX b o e) (by
      cases q : H b with
      | none => rfl
      | some u =>
        have e' : b = a := hA b (by rw [q]; simp)
        subst e'
        rw [hK (by rw [q]; simp)] at e; cases e)
    have hM : Mod K mg (hidT s₁.heap H) := ⟨hKb, nsK hns, ⟨mb, nsK hb, hbb⟩, let ⟨mc, h1, h2⟩ := hlim; ⟨mc, nsK h1, h2⟩⟩
    have e0 : Env0 P w K mg (hidT s₁.heap H) callerA [] s₁ H := ⟨rfl, hM, fun b o e => of_hidT e, Nat.le_of_eq (hidT_size _ _), trivial, fun b hb => absurd (show b ∈ ([] : List Addr) from hb) (by simp), hok, .of_eq hg⟩
    refine codeAny_mono ((F _ hKb (nsK hns)).run callerA [] s₁ H ⟨[.ref a], []⟩ [.ref a] [.ref a] _ _ hr e0 (hbind s₁ (.ref a)) (.cons rfl .nil) (hsp H hO hS)) fun r s' h => ?_
    cases r with
    | error e => exact (hCX H e s' h).elim
    | ok fl =>
      cases fl with
      | next => exact False.elim h
      | brk => exact False.elim h
      | cont => exact False.elim h
      | ret u =>
        obtain ⟨v, H', os, bare, un, hok', r', q⟩ := h
        have q' : v = .bl true := q
        subst q'
        obtain rfl : u = Value.bool true := r'
        refine ⟨rfl, OldK.of_keep fun b o e => ?_, os, bare⟩
        cases q : H b with
        | none => exact un.keep b o e q (by intro z; exact absurd (show b ∈ ([] : List Addr) from z) (by simp)) (by simp)
        | some u =>
          rcases hO b with z | ⟨ob, xs, z⟩
          · rw [q] at z; cases z
          · have z2 := un.frzs b ob _ z
            obtain ⟨e1, _⟩ := hok b _ z
            obtain ⟨e2, _⟩ := hok' b _ z2
            rw [e] at e1; cases e1
            exact e2
  cases hk : K.lookup a with
  | some o =>
    -- the script is one of the module's own objects
    have e := KX a o hk
    rw [ha] at e
    cases e
    refine core (fun _ => none) (fun _ => .inl rfl) (.inr ⟨_, vs.toArray, _, hk, rfl, rfl, rfl, by rw [List.size_toArray, lenV]; exact hl, by simpa using rv⟩) (fun b u z => by have z' : (none : Option HO) = some u := z; cases z') (fun b z => absurd rfl z) fun z => absurd rfl z
  | none =>
    refine core (fun b => if b = a then some (.frz { cls := .type "list", data := .seq vs.toArray } (.lst (ns.map V.int))) else none) (fun b => ?_) (.inl (.inr ⟨{ cls := .type "list", data := .seq vs.toArray }, if_pos rfl⟩)) (fun b u z => ?_) (fun b z => ?_) fun _ => hk
    · by_cases hb : b = a
      · exact .inr ⟨_, _, if_pos hb⟩
      · exact .inl (if_neg hb)
    · by_cases hb : b = a
      · have z' := (if_pos hb).symm.trans z
        cases z'
        subst hb
        exact ⟨ha, by rw [List.length_map]; exact hl, vs, _, rv, ha⟩
      · have z' := (if_neg hb).symm.trans z
        cases z'
    · by_cases hb : b = a
      · exact hb
      · exact absurd (if_neg hb) z
end L2

namespace L2
open PySem PySem.Spec PyProof.Rows

/-- the goal that k_head leaves (case hc), from the law's promise. F gives the function object fd (K's own) once, then the promise over every base -/
theorem walk_of {l : PySem.W.OpenLaw} {n k : Nat} {q : Program} {loose : List Str} {XP : (Str → Option Value) → Heap → Prop} {YP : World → Heap → Prop} {d : DefRec} {K : Params → PySem.W.Frag} {CX : World → CXT} {sp : World → Sp} {x : Str}
    (hn : l.most = some n) (hn2 : n ≤ sizeLine) (hdf : d.params.defaults = []) (hr : Room k callerA)
    (hY : ∀ (w : World) (h : Heap), YP w h → (K w.params).In h)
    (F : ∀ (w : World) (mg : Str → Option Value) (fa : Addr) (h : Heap), (K w.params).In h → h.Ns mainGlobals mg → mg d.name = some (.ref fa) →
      ∃ fd : FuncData, (∀ (s : Shared) (u : Value), BindsTo s fd ⟨[u], []⟩ [(x, u)]) ∧
        ∀ base : Heap, (K w.params).In base → base.Ns mainGlobals mg → FnOk l.prog w (K w.params) mg base (CX w) k fa fd [x] (sp w))
    (hsp : ∀ (w : World) (H : Hp) (a : Addr) (ns : List Int), ns.length ≤ n → Only H → SqL (K w.params) H a (ns.map V.int) → sp w [.ref a] H (fun v _ => v = .bl true) fun _ _ _ => False)
    (hCX : ∀ (w : World) (H : Hp) (s : Shared) (e : Value) (s' : Shared), CX w [] H s (fun _ _ _ => False) e s' → False) :
    PySem.W.WalkO q loose XP YP l.row.toRowW d [] (fun f vs => PySem.call f vs) := by
  refine Att.attach_call hn hdf fun w s₀ s₁ mg mb fa o pm cd doc a vs ns G Y ho hd hcd hmg hobj hints hlen hg => ?_
  have KX := hY w _ Y
  obtain ⟨fd, hb, hF⟩ := F w mg fa _ KX G.T.g hmg
  exact law_call KX G.T.g G.T.b G.T.builtins G.T.nolimit hg hobj hints (Nat.le_trans hlen hn2) hr hF hb (fun H hO hS => hsp w H a ns hlen hO hS) fun H e s' => hCX w H s₁ e s'
end L2

/-! SHORT WORDS over the layer: a def of the text, its body, what a loop and a test want. -/
namespace L2
open PySem PySem.Spec PyProof.Rows

/-! ### the text by places -/
def defArgs (s : Stmt) : Arguments := match s with
  | .FunctionDef _ a _ _ _ _ _ _ _ _ => a
  | _ => { posonlyargs := [], args := [], vararg := none, kwonlyargs := [], kw_defaults := [], kwarg := none, defaults := [] }
def defBody (s : Stmt) : List Stmt := match s with
  | .FunctionDef _ _ b _ _ _ _ _ _ _ => b
  | _ => []
def defScope (s : Stmt) : Scope := match s with
  | .FunctionDef _ _ _ _ _ _ sc _ _ _ => sc
  | _ => { kind := .function, names := [], isGenerator := false, isCoroutine := false }

/-! ### no exception leaves a def -/
abbrev CX0 : CXT := fun _ _ _ _ _ _ => False
abbrev E0 : XK := fun _ _ _ => False
theorem pass0 {X : Cx} : Passes CX0 X E0 := fun _ _ _ _ _ _ _ h => h.elim

/-! ### a def (or method) of the text as it stands behind the top -/
structure Fun (K : PySem.W.Frag) (x qual : Str) (st : Stmt) (f : Addr) (fd : FuncData) : Prop where
  ex : ∃ (oc : Value) (od : Option Addr) (kV doc pm : Value) (an : Option Addr) (cdv ct : Value) (osl : Array (Option Value)),
    fd = PySem.W.fnOf x qual (defArgs st) (defBody st) (defScope st) .none kV doc pm an cdv ct ∧ K.lookup f = some ⟨oc, od, .func fd, osl⟩ ∧ PySem.W.codeIn K cdv qual = true
  kp : PySem.W.keepIn K (.ref f) = true
section
variable {P : Program} {w : World} {K : PySem.W.Frag} {mg : Str → Option Value} {base : Heap}
/-- THE RULE for a def: its body as a term of rules, and the reading of that term -/
theorem Fun.ok {x qual : Str} {st : Stmt} {f : Addr} {fd : FuncData} {N ps : List Str} {k : Nat} {sp : Sp} (F : Fun K x qual st f fd) (S : FnScope N ps (defScope st)) (len : ∀ vs H Q E, sp vs H Q E → vs.length = ps.length)
    (hbody : ∀ (cdv : Value) (A : Around) (outer : List Env) (s : Shared) (H : Hp) (vs : List V) (Q : VK) (E : XK), Room k (A.deeper (envOfC qual (defScope st) s.heap.objs.size f cdv)) → sp vs H Q E →
      ∃ t, PSs (cxOf CX0 P w K mg base N qual (defScope st) f cdv A outer s H E).nox (defBody st) t ∧ t { nx := fun _ H' => Q .non H', rt := Q } (start N vs) H) : FnOk P w K mg base CX0 (k + 1) f fd ps sp := by
  obtain ⟨oc, od, kV, doc, pm, an, cdv, ct, osl, rfl, lk, hcd⟩ := F.ex
  refine fn_of lk hcd S len fun A outer s H vs Q E hr hsp => ?_
  obtain ⟨t, h, q⟩ := hbody cdv A outer s H vs Q E hr hsp
  exact ⟨t, h.nox, q⟩
/-- how its arguments bind (no defaults): h is «fun _ _ _ _ _ _ us hl => match us, hl with | [_, _], _ => rfl», one _ a parameter -/
theorem Fun.binds {x qual : Str} {st : Stmt} {f : Addr} {fd : FuncData} {ps : List Str} (F : Fun K x qual st f fd)
    (h : ∀ (kV doc pm : Value) (an : Option Addr) (cdv ct : Value) (us : List Value), us.length = ps.length → bindArgs (PySem.W.fnOf x qual (defArgs st) (defBody st) (defScope st) .none kV doc pm an cdv ct) ⟨us, []⟩ = pure (ps.zip us)) : Binds K fd ps [] := by
  obtain ⟨oc, od, kV, doc, pm, an, cdv, ct, osl, rfl, lk, hcd⟩ := F.ex
  exact .all (h kV doc pm an cdv ct)
theorem fun_mk {x qual : Str} {st : Stmt} {f : Addr} {oc : Value} {od an : Option Addr} {osl : Array (Option Value)} {kV doc pm cdv ct : Value} (l : K.lookup f = some ⟨oc, od, .func (PySem.W.fnOf x qual (defArgs st) (defBody st) (defScope st) .none kV doc pm an cdv ct), osl⟩)
    (c : PySem.W.codeIn K cdv qual = true) (k : PySem.W.keepIn K (.ref f) = true) : Fun K x qual st f (PySem.W.fnOf x qual (defArgs st) (defBody st) (defScope st) .none kV doc pm an cdv ct) := ⟨⟨oc, od, kV, doc, pm, an, cdv, ct, osl, rfl, l, c⟩, k⟩
end
/-! ### expressions in short: the name that stands in the i-th slot -/
section
variable {X : Cx}
end

/-! ### tests -/
theorem iteF {A B : Prop} (h : B) : if false = true then A else B := by
  rw [if_neg Bool.false_ne_true]
  exact h
theorem iteT {A B : Prop} (h : A) : if true = true then A else B := by
  rw [if_pos rfl]
  exact h
/-! ### heaps -/
/-- all that was tracked is as it was -/
def Same (H H' : Hp) : Prop := ∀ b o, H b = some o → H' b = some o
theorem Same.refl (H : Hp) : Same H H := fun _ _ h => h
theorem Same.trans {H H1 H2 : Hp} (a : Same H H1) (b : Same H1 H2) : Same H H2 := fun c o h => b c o (a c o h)
theorem Same.free {H H' : Hp} (e : Same H H') {l : Addr} (h : H' l = Option.none) : H l = Option.none := by
  cases q : H l with
  | none => rfl
  | some o =>
    rw [e l o q] at h
    cases h
theorem Same.seq {K : PySem.W.Frag} {H H' : Hp} {a : Addr} {xs : List V} (e : Same H H') (h : SqL K H a xs) : SqL K H' a xs := by
  rcases h with (h | ⟨o, h⟩) | h
  · exact .inl (.inl (e _ _ h))
  · exact .inl (.inr ⟨o, e _ _ h⟩)
  · exact .inr h

end L2

set_option Elab.async false
set_option linter.all false
set_option maxRecDepth 100000
set_option maxHeartbeats 1000000
namespace L2
open PySem PySem.Spec PyProof.Rows

/-! ### branches that do not unfold -/
@[irreducible] def br (c : Bool) (A B : Prop) : Prop := if c = true then A else B
section
variable {A B p : Prop} {c : Bool}
theorem br_iff : br c A B = (if c = true then A else B) := by unfold br; rfl
theorem br_T (h : A) : br true A B := by unfold br; exact iteT h
theorem br_F (h : B) : br false A B := by unfold br; exact iteF h
theorem br_any (h1 : c = true → A) (h2 : c = false → B) : br c A B := by
  cases c with
  | true => exact br_T (h1 rfl)
  | false => exact br_F (h2 rfl)
theorem br_dec [Decidable p] (h1 : p → A) (h2 : ¬ p → B) : br (decide p) A B := br_any (fun h => h1 (of_decide_eq_true h)) fun h => h2 (of_decide_eq_false h)
theorem br_dT [Decidable p] (hp : p) (h : A) : br (decide p) A B := br_dec (fun _ => h) fun n => absurd hp n
theorem br_dF [Decidable p] (hp : ¬ p) (h : B) : br (decide p) A B := br_dec (fun n => absurd n hp) fun _ => h
theorem br_not (h : br c B A) : br (!c) A B := by
  cases c with
  | true => unfold br at h ⊢; simpa using h
  | false => unfold br at h ⊢; simpa using h
end

/-! ### heaps -/
/-- all but a is as it was -/
def Chg (a : Addr) (H H' : Hp) : Prop := ∀ b o, b ≠ a → H b = some o → H' b = some o
theorem Chg.upd {H : Hp} {a : Addr} {o : HO} : Chg a H (upd H a o) := fun b u hb e => by rw [upd_ne hb]; exact e
theorem Same.upd {H : Hp} {a : Addr} {o : HO} (h : H a = none) : Same H (L2.upd H a o) := fun b u e => by rw [upd_ne (ne_of_none e h)]; exact e
theorem Same.chg {H0 H H' : Hp} {a : Addr} (s : Same H0 H) (n : H0 a = none) (c : Chg a H H') : Same H0 H' := fun b o e => c b o (ne_of_none e n) (s b o e)
theorem Chg.refl (a : Addr) (H : Hp) : Chg a H H := fun _ _ _ e => e
theorem Chg.trans {H H1 H2 : Hp} {a : Addr} (x : Chg a H H1) (y : Chg a H1 H2) : Chg a H H2 := fun b o h e => y b o h (x b o h e)
theorem Chg.same {H H1 H2 : Hp} {a : Addr} (x : Chg a H H1) (y : Same H1 H2) : Chg a H H2 := fun b o h e => y b o (x b o h e)
theorem Same.toChg {H H1 : Hp} {a : Addr} (x : Same H H1) : Chg a H H1 := fun b o _ e => x b o e
theorem Same.at {H H' : Hp} {b : Addr} {o : HO} (s : Same H H') (e : H b = some o) : H' b = some o := s b o e
theorem Chg.at {H H' : Hp} {a b : Addr} {o : HO} (s : Chg a H H') (e : H b = some o) (n : b ≠ a) : H' b = some o := s b o n e
/-! ### names -/
def qV (i : Nat) : TE := fun σ H Q => match σ[i]? with
  | some (some v) => Q v H
  | _ => False
section
variable {X : Cx}
theorem pq (i : Nat) {x : Str} {pos : Pos} (hN : X.N[i]? = some x := by rfl) (hv : Vis X.env.scope x := by first | exact Or.inl rfl | exact Or.inr (Or.inl rfl) | exact Or.inr (Or.inr rfl)) (hd : (x == ("__debug__" : Str)) = false := by decide)
    (hcd : (x == ("__classdict__" : Str)) = false := by decide) : PE X (.Name x pos) (qV i) := fun pins s σ H Q I h => by
  refine pe_var hN hv hd hcd pins s σ H Q I ?_
  unfold qV at h
  split at h
  · rename_i v e
    exact ⟨v, e, h⟩
  · exact h.elim

/-! ### arithmetic -/
@[irreducible] def rMulI (i j : Int) (H : Hp) (Q : VK) : Prop := IntMulOk i j ∧ Q (.int (i * j)) H
@[irreducible] def rDivI (i j : Int) (H : Hp) (Q : VK) : Prop := (j ≠ 0 ∧ j.natAbs.log2 < 9000) ∧ Q (.int (i.fdiv j)) H
@[irreducible] def rModI (i j : Int) (H : Hp) (Q : VK) : Prop := j ≠ 0 ∧ Q (.int (i.fmod j)) H
@[irreducible] def rPowI (i j : Int) (H : Hp) (Q : VK) : Prop := CPow i j ∧ Q (.int (i ^ j.toNat)) H
@[irreducible] def rCatL (a b : Addr) (H : Hp) (Q : VK) : Prop := ∃ xs zs, H a = some (.lst xs) ∧ H b = some (.lst zs) ∧ xs.length + zs.length ≤ sizeLine ∧
  ∀ p H', H p = none → Same H H' → H' p = some (.lst (xs ++ zs)) → Q (.ref p) H'
@[irreducible] def rRepL (a : Addr) (k : Int) (H : Hp) (Q : VK) : Prop := ∃ xs, H a = some (.lst xs) ∧ -(2 ^ 63) ≤ k ∧ k < 2 ^ 63 ∧ xs.length * k.toNat ≤ sizeLine ∧
  ∀ p H', H p = none → Same H H' → H' p = some (.lst (List.replicate k.toNat xs).flatten) → Q (.ref p) H'
def rAddM : R2 := fun x y H Q => match x, y with
  | .int i, .int j => Q (.int (i + j)) H
  | .ref a, .ref b => rCatL a b H Q
  | .str a, .str b => a.length + b.length ≤ sizeLine ∧ Q (.str (a ++ b)) H
  | _, _ => False
def rSubM : R2 := fun x y H Q => match x, y with
  | .int i, .int j => Q (.int (i - j)) H
  | _, _ => False
def rMulM : R2 := fun x y H Q => match x, y with
  | .int i, .int j => rMulI i j H Q
  | .ref a, .int k => rRepL a k H Q
  | _, _ => False
def rDivM : R2 := fun x y H Q => match x, y with
  | .int i, .int j => rDivI i j H Q
  | _, _ => False
def rModM : R2 := fun x y H Q => match x, y with
  | .int i, .int j => rModI i j H Q
  | _, _ => False
def rPowM : R2 := fun x y H Q => match x, y with
  | .int i, .int j => rPowI i j H Q
  | _, _ => False
theorem oAdd : OpR X (binaryOp .Add) rAddM := by
  intro pins s σ H x y v u Q I rx ry h
  unfold rAddM at h
  split at h
  · exact op_add pins s σ H _ _ v u Q I rx ry ⟨_, _, rfl, rfl, h⟩
  · unfold rCatL at h
    obtain ⟨xs, zs, h1, h2, h3, h4⟩ := h
    exact op_cat pins s σ H _ _ v u Q I rx ry ⟨_, _, xs, zs, rfl, rfl, h1, h2, h3, fun p hp => h4 p _ hp (Same.upd hp) upd_same⟩
  · exact op_add_str pins s σ H _ _ v u Q I rx ry ⟨_, _, rfl, rfl, h.1, h.2⟩
  · exact h.elim
theorem oSub : OpR X (binaryOp .Sub) rSubM := by
  intro pins s σ H x y v u Q I rx ry h
  unfold rSubM at h
  split at h
  · exact op_sub pins s σ H _ _ v u Q I rx ry ⟨_, _, rfl, rfl, h⟩
  · exact h.elim
theorem oMul : OpR X (binaryOp .Mult) rMulM := by
  intro pins s σ H x y v u Q I rx ry h
  unfold rMulM at h
  split at h
  · unfold rMulI at h
    obtain ⟨t, rfl⟩ := rx
    obtain ⟨t', rfl⟩ := ry
    exact mul_int ⟨.int _, H, I.tok _, ⟨_, rfl⟩, h.2⟩ h.1
  · unfold rRepL at h
    obtain ⟨xs, h1, h2, h3, h4, h5⟩ := h
    exact op_rep pins s σ H _ _ v u Q I rx ry ⟨_, _, xs, rfl, rfl, h1, h2, h3, h4, fun p hp => h5 p _ hp (Same.upd hp) upd_same⟩
  · exact h.elim
theorem oDiv : OpR X (binaryOp .FloorDiv) rDivM := by
  intro pins s σ H x y v u Q I rx ry h
  unfold rDivM at h
  split at h
  · unfold rDivI at h
    obtain ⟨⟨h1, h2⟩, h3⟩ := h
    obtain ⟨t, rfl⟩ := rx
    obtain ⟨t', rfl⟩ := ry
    exact floordiv_int h1 ⟨.int _, H, I.tok _, ⟨_, rfl⟩, h3⟩ (.inl (PyProof.noPylong_of_log2 h2))
  · exact h.elim
theorem oMod : OpR X (binaryOp .Mod) rModM := by
  intro pins s σ H x y v u Q I rx ry h
  unfold rModM at h
  split at h
  · unfold rModI at h
    exact op_modN pins s σ H _ _ v u Q I rx ry ⟨_, _, rfl, rfl, h.1, h.2⟩
  · exact h.elim
theorem oPow : OpR X (binaryOp .Pow) rPowM := by
  intro pins s σ H x y v u Q I rx ry h
  unfold rPowM at h
  split at h
  · unfold rPowI at h
    exact op_pow pins s σ H _ _ v u Q I rx ry ⟨_, _, rfl, rfl, h.1, h.2⟩
  · exact h.elim
def rNegM : V → Hp → VK → Prop := fun x H Q => match x with
  | .int i => Q (.int (-i)) H
  | _ => False
theorem uNeg : UnR X (unaryOp .USub) rNegM := by
  intro pins s σ H x v Q I rx h
  unfold rNegM at h
  split at h
  · exact un_neg pins s σ H _ v Q I rx ⟨_, rfl, h⟩
  · exact h.elim

/-! how they are read -/
section
variable {i j : Int} {H : Hp} {Q : VK}
theorem mul_rd (h : IntMulOk i j) (q : Q (.int (i * j)) H) : rMulI i j H Q := by unfold rMulI; exact ⟨h, q⟩
theorem log2_lt {n k : Nat} (h : n < 2 ^ k) (hk : 0 < k) : n.log2 < k := by
  by_cases h0 : n = 0
  · subst h0; simpa using hk
  · exact (Nat.log2_lt h0).mpr h
theorem big9000 {j : Int} (h1 : -(10 ^ 240) < j) (h2 : j < 10 ^ 240) : j.natAbs < 2 ^ 2000 := by
  have e : (10 : Int) ^ 240 = ((10 ^ 240 : Nat) : Int) := by norm_cast
  have e2 : (10 : Nat) ^ 240 < 2 ^ 2000 := by decide +kernel
  rw [e] at h1 h2
  generalize hN : (10 : Nat) ^ 240 = N at h1 h2 e2
  generalize hM : (2 : Nat) ^ 2000 = M at e2
  omega
theorem div_rd (h1 : 0 < j) (h2 : j < 10 ^ 240) (q : Q (.int (i / j)) H) : rDivI i j H Q := by
  unfold rDivI
  refine ⟨⟨by omega, ?_⟩, ?_⟩
  · have h := log2_lt (big9000 (j := j) (by have : (0 : Int) < 10 ^ 240 := by decide +kernel
                                            generalize (10 : Int) ^ 240 = N at this; omega) h2) (by decide)
    omega
  · rw [Int.fdiv_eq_ediv_of_nonneg _ (by omega)]; exact q
theorem mod_rd (h1 : 0 < j) (q : Q (.int (i % j)) H) : rModI i j H Q := by
  unfold rModI
  refine ⟨by omega, ?_⟩
  rw [Int.fmod_eq_emod_of_nonneg _ (by omega)]; exact q
theorem pow_rd (h : CPow i j) (q : Q (.int (i ^ j.toNat)) H) : rPowI i j H Q := by unfold rPowI; exact ⟨h, q⟩
theorem cat_rd {a b : Addr} {xs zs : List V} (h1 : H a = some (.lst xs)) (h2 : H b = some (.lst zs)) (h3 : xs.length + zs.length ≤ sizeLine)
    (q : ∀ p H', H p = none → Same H H' → H' p = some (.lst (xs ++ zs)) → Q (.ref p) H') : rCatL a b H Q := by unfold rCatL; exact ⟨xs, zs, h1, h2, h3, q⟩
theorem rep_rd {a : Addr} {k : Int} {xs : List V} (h1 : H a = some (.lst xs)) (h2 : -(2 ^ 63) ≤ k) (h3 : k < 2 ^ 63) (h4 : xs.length * k.toNat ≤ sizeLine)
    (q : ∀ p H', H p = none → Same H H' → H' p = some (.lst (List.replicate k.toNat xs).flatten) → Q (.ref p) H') : rRepL a k H Q := by unfold rRepL; exact ⟨xs, h1, h2, h3, h4, q⟩
end

/-! ### comparisons -/
def rLeM : R2 := fun x y H Q => match x, y with
  | .int i, .int j => Q (.bl (decide (i ≤ j))) H
  | _, _ => False
def rGtM : R2 := fun x y H Q => match x, y with
  | .int i, .int j => Q (.bl (decide (j < i))) H
  | _, _ => False
theorem oLe : OpR X (compareOp .LtE) rLeM := by
  intro pins s σ H x y v u Q I rx ry h
  unfold rLeM at h
  split at h
  · exact op_le pins s σ H _ _ v u Q I rx ry ⟨_, _, rfl, rfl, h⟩
  · exact h.elim
theorem oGt : OpR X (compareOp .Gt) rGtM := by
  intro pins s σ H x y v u Q I rx ry h
  unfold rGtM at h
  split at h
  · exact op_gt pins s σ H _ _ v u Q I rx ry ⟨_, _, rfl, rfl, h⟩
  · exact h.elim
/-- == of two things, to a depth n -/
inductive EqR (K : PySem.W.Frag) (H : Hp) : Nat → V → V → Bool → Prop where
  | flat {n : Nat} {x y : V} (fx : flatV x = true) (fy : flatV y = true) : EqR K H n x y (eqV x y)
  | tup {n : Nat} {a b : Addr} {xs ys : List V} (e : Nat → Bool) (ha : SqT K H a xs) (hb : SqT K H b ys) (h : ∀ (j : Nat) (x y : V), xs[j]? = some x → ys[j]? = some y → EqR K H n x y (e j)) :
      EqR K H (n + 1) (.ref a) (.ref b) ((List.range (min xs.length ys.length)).all e && xs.length == ys.length)
  | lst {n : Nat} {a b : Addr} {xs ys : List V} (e : Nat → Bool) (ha : SqL K H a xs) (hb : SqL K H b ys) (hl : xs.length = ys.length) (h : ∀ (j : Nat) (x y : V), xs[j]? = some x → ys[j]? = some y → EqR K H n x y (e j)) :
      EqR K H (n + 1) (.ref a) (.ref b) ((List.range xs.length).all e)
  | lstN {n : Nat} {a b : Addr} {xs ys : List V} (ha : SqL K H a xs) (hb : SqL K H b ys) (hl : xs.length ≠ ys.length) : EqR K H (n + 1) (.ref a) (.ref b) false
theorem eqV_self {x : V} (f : flatV x = true) : eqV x x = true := by
  cases x <;> first | rfl | (simp [eqV]; done) | exact absurd (show false = true from f) Bool.false_ne_true
section
variable {pins : List (Addr × Obj)} {σ : St} {H : Hp} {s : Shared}
theorem EqR.self (I : Inv X pins σ H s) {n : Nat} {x y : V} {b : Bool} (h : EqR X.K H n x y b) : x = y → b = true := by
  induction h with
  | flat fx fy => rintro rfl; exact eqV_self fx
  | tup e ha hb h ih =>
    intro q
    cases q
    have q := I.tuple_inj ha hb
    subst q
    rw [Nat.min_self, Bool.and_eq_true]
    refine ⟨List.all_eq_true.mpr fun j hj => ?_, by simp⟩
    have hj := List.mem_range.mp hj
    exact ih j _ _ (List.getElem?_eq_getElem hj) (List.getElem?_eq_getElem hj) rfl
  | lst e ha hb hl h ih =>
    intro q
    cases q
    have q := I.list_inj ha hb
    subst q
    refine List.all_eq_true.mpr fun j hj => ?_
    have hj := List.mem_range.mp hj
    exact ih j _ _ (List.getElem?_eq_getElem hj) (List.getElem?_eq_getElem hj) rfl
  | lstN ha hb hl =>
    intro q
    cases q
    exact absurd (congrArg List.length (I.list_inj ha hb)) hl
theorem in1_units (A : Around) : A.in1.units = A.units + 1 := rfl
mutual
theorem EqR.at (I : Inv X pins σ H s) : ∀ {n : Nat} {x y : V} {b : Bool}, EqR X.K H n x y b → ∀ {u v : Value} {A : Around}, RelV x u → RelV y v → A.units + n < cLine → SeqAt.EqAt A s u v b
  | _, _, _, _, .flat fx fy, u, v, A, rx, ry, _ => eqAt_V rx ry fx fy
  | _, .ref a, .ref b, _, h, u, v, A, rx, ry, hu => by
    cases rx
    cases ry
    by_cases e : a = b
    · subst e
      rw [h.self I rfl]
      exact SeqAt.EqAt.same _
    · exact SeqAt.EqAt.of_refs e (EqR.rc I h hu)
theorem EqR.rc (I : Inv X pins σ H s) : ∀ {n : Nat} {a b : Addr} {c : Bool}, EqR X.K H n (.ref a) (.ref b) c → ∀ {A : Around}, A.units + n < cLine → SeqAt.RcAt A s (.ref a) (.ref b) c
  | _, _, _, _, .flat fx _, _, _ => absurd (show false = true from fx) Bool.false_ne_true
  | _, a, b, _, .tup (xs := xs) (ys := ys) e ha hb h, A, hu => by
    obtain ⟨its, r1, t1, z1⟩ := I.tuple ha
    obtain ⟨its2, r2, t2, z2⟩ := I.tuple hb
    have l1 : its.toArray.size = xs.length := by rw [List.size_toArray]; exact r1.length.symm
    have l2 : its2.toArray.size = ys.length := by rw [List.size_toArray]; exact r2.length.symm
    have q := SeqAt.RcAt.tuples (A := A) (e := e) t1 t2 (by omega) fun j h1 h2 => by
      rw [l1] at h1
      rw [l2] at h2
      obtain ⟨u1, e1, q1⟩ := r1.get (List.getElem?_eq_getElem h1)
      obtain ⟨u2, e2, q2⟩ := r2.get (List.getElem?_eq_getElem h2)
      have i1 : its.toArray[j] = u1 := by
        have := (List.getElem?_eq_some_iff.mp e1).2
        simpa using this
      have i2 : its2.toArray[j] = u2 := by
        have := (List.getElem?_eq_some_iff.mp e2).2
        simpa using this
      rw [i1, i2]
      exact EqR.at I (h j _ _ (List.getElem?_eq_getElem h1) (List.getElem?_eq_getElem h2)) q1 q2 (by rw [in1_units]; omega)
    rw [l1, l2] at q
    exact q
  | _, a, b, _, .lst (xs := xs) (ys := ys) e ha hb hl h, A, hu => by
    obtain ⟨its, r1, t1, z1⟩ := I.list ha
    obtain ⟨its2, r2, t2, z2⟩ := I.list hb
    have l1 : its.toArray.size = xs.length := by rw [List.size_toArray]; exact r1.length.symm
    have l2 : its2.toArray.size = ys.length := by rw [List.size_toArray]; exact r2.length.symm
    have q := SeqAt.RcAt.lists (A := A) (e := e) t1.isList t2.isList (by rw [l1, l2]; exact hl) (by omega) fun j h1 h2 => by
      rw [l1] at h1
      rw [l2] at h2
      obtain ⟨u1, e1, q1⟩ := r1.get (List.getElem?_eq_getElem h1)
      obtain ⟨u2, e2, q2⟩ := r2.get (List.getElem?_eq_getElem h2)
      have i1 : its.toArray[j] = u1 := by
        have := (List.getElem?_eq_some_iff.mp e1).2
        simpa using this
      have i2 : its2.toArray[j] = u2 := by
        have := (List.getElem?_eq_some_iff.mp e2).2
        simpa using this
      rw [i1, i2]
      exact EqR.at I (h j _ _ (List.getElem?_eq_getElem h1) (List.getElem?_eq_getElem h2)) q1 q2 (by rw [in1_units]; omega)
    rw [l1] at q
    exact q
  | _, a, b, _, .lstN (xs := xs) (ys := ys) ha hb hl, A, hu => by
    obtain ⟨its, r1, t1, z1⟩ := I.list ha
    obtain ⟨its2, r2, t2, z2⟩ := I.list hb
    have l1 : its.toArray.size = xs.length := by rw [List.size_toArray]; exact r1.length.symm
    have l2 : its2.toArray.size = ys.length := by rw [List.size_toArray]; exact r2.length.symm
    exact SeqAt.RcAt.lists_lengths t1.isList t2.isList (by rw [l1, l2]; simpa using hl) (by omega)
end
theorem EqR.rcNe (I : Inv X pins σ H s) : ∀ {n : Nat} {a b : Addr} {c : Bool}, EqR X.K H n (.ref a) (.ref b) c → ∀ {A : Around}, A.units + n < cLine → SeqAt.RcNeAt A s (.ref a) (.ref b) (!c)
  | _, _, _, _, .flat fx _, _, _ => absurd (show false = true from fx) Bool.false_ne_true
  | _, a, b, _, .tup (xs := xs) (ys := ys) e ha hb h, A, hu => by
    obtain ⟨its, r1, t1, z1⟩ := I.tuple ha
    obtain ⟨its2, r2, t2, z2⟩ := I.tuple hb
    have l1 : its.toArray.size = xs.length := by rw [List.size_toArray]; exact r1.length.symm
    have l2 : its2.toArray.size = ys.length := by rw [List.size_toArray]; exact r2.length.symm
    have q := SeqAt.RcNeAt.tuples (A := A) (e := e) t1 t2 (by omega) fun j h1 h2 => by
      rw [l1] at h1
      rw [l2] at h2
      obtain ⟨u1, e1, q1⟩ := r1.get (List.getElem?_eq_getElem h1)
      obtain ⟨u2, e2, q2⟩ := r2.get (List.getElem?_eq_getElem h2)
      have i1 : its.toArray[j] = u1 := by
        have := (List.getElem?_eq_some_iff.mp e1).2
        simpa using this
      have i2 : its2.toArray[j] = u2 := by
        have := (List.getElem?_eq_some_iff.mp e2).2
        simpa using this
      rw [i1, i2]
      exact EqR.at I (h j _ _ (List.getElem?_eq_getElem h1) (List.getElem?_eq_getElem h2)) q1 q2 (by rw [in1_units]; omega)
    rw [l1, l2] at q
    exact q
  | _, a, b, _, .lst (xs := xs) (ys := ys) e ha hb hl h, A, hu => by
    obtain ⟨its, r1, t1, z1⟩ := I.list ha
    obtain ⟨its2, r2, t2, z2⟩ := I.list hb
    have l1 : its.toArray.size = xs.length := by rw [List.size_toArray]; exact r1.length.symm
    have l2 : its2.toArray.size = ys.length := by rw [List.size_toArray]; exact r2.length.symm
    have q := SeqAt.RcNeAt.lists (A := A) (e := e) t1.isList t2.isList (by rw [l1, l2]; exact hl) (by omega) fun j h1 h2 => by
      rw [l1] at h1
      rw [l2] at h2
      obtain ⟨u1, e1, q1⟩ := r1.get (List.getElem?_eq_getElem h1)
      obtain ⟨u2, e2, q2⟩ := r2.get (List.getElem?_eq_getElem h2)
      have i1 : its.toArray[j] = u1 := by
        have := (List.getElem?_eq_some_iff.mp e1).2
        simpa using this
      have i2 : its2.toArray[j] = u2 := by
        have := (List.getElem?_eq_some_iff.mp e2).2
        simpa using this
      rw [i1, i2]
      exact EqR.at I (h j _ _ (List.getElem?_eq_getElem h1) (List.getElem?_eq_getElem h2)) q1 q2 (by rw [in1_units]; omega)
    rw [l1] at q
    exact q
  | _, a, b, _, .lstN (xs := xs) (ys := ys) ha hb hl, A, hu => by
    obtain ⟨its, r1, t1, z1⟩ := I.list ha
    obtain ⟨its2, r2, t2, z2⟩ := I.list hb
    have l1 : its.toArray.size = xs.length := by rw [List.size_toArray]; exact r1.length.symm
    have l2 : its2.toArray.size = ys.length := by rw [List.size_toArray]; exact r2.length.symm
    exact SeqAt.RcNeAt.lists_lengths t1.isList t2.isList (by rw [l1, l2]; simpa using hl) (by omega)
end
@[irreducible] def rEqO (K : PySem.W.Frag) (a b : Addr) (H : Hp) (Q : VK) : Prop := ∃ n c, n ≤ 40 ∧ EqR K H n (.ref a) (.ref b) c ∧ Q (.bl c) H
def rEqM (K : PySem.W.Frag) : R2 := fun x y H Q => match x, y with
  | .int i, .int j => Q (.bl (decide (i = j))) H
  | .bl i, .bl j => Q (.bl (decide (i = j))) H
  | .str i, .str j => Q (.bl (decide (i = j))) H
  | .ref a, .ref b => rEqO K a b H Q
  | x, y => scal x y = true ∧ Q (.bl (decide (x = y))) H
def rNeM (K : PySem.W.Frag) : R2 := fun x y H Q => rEqM K x y H fun v H' => match v with
  | .bl b => Q (.bl (!b)) H'
  | _ => False
theorem dec_inj {α β : Type} [DecidableEq α] [DecidableEq β] {f : α → β} (hf : ∀ a b, f a = f b → a = b) (a b : α) : decide (f a = f b) = decide (a = b) := by
  by_cases h : a = b
  · subst h; simp
  · rw [decide_eq_false h, decide_eq_false fun e => h (hf _ _ e)]
section
variable {K : PySem.W.Frag} {H : Hp} {Q : VK} {a b : Addr} {c : Bool} {n : Nat}
end

/-! ### tests, and, or, not, if -/
/-- a value's truth -/
def qB (t : TE) : TT := fun σ H Q => t σ H fun x H1 => match x with
  | .bl c => Q c H1
  | .int i => Q (!decide (i = 0)) H1
  | _ => False
theorem ptV {e : Expr} {t : TE} (h : PE X e t) (he : ∀ whole, isTrue e X.env whole = (do let v ← whole; standAt e.pos; holding [v] (truthy v)) := by intro _; rfl) : PT X e (qB t) := fun pins s σ H Q I hw => by
  refine isTrue_plain (thn (h pins s σ H _ I hw) fun v s1 ⟨x, H1, I1, r1, q1⟩ => ?_) (he _)
  dsimp only at q1
  split at q1
  · exact tru_ok pins s1 σ H1 _ v Q I1 r1 ⟨_, rfl, q1⟩
  · rename_i i
    refine tru_ok pins s1 σ H1 _ v Q I1 r1 ⟨_, rfl, ?_⟩
    have e : (i != 0) = !decide (i = 0) := by by_cases h : i = 0 <;> simp [h]
    rw [e]; exact q1
  · exact q1.elim
theorem ptC {a b : Expr} {ta tb : TE} {pos : Pos} {op : CmpOp} {r : R2} (ho : OpR X (compareOp op) r) (ha : PE X a ta) (hb : PE X b tb) (hm : behindInMarks op b = false := by first | exact nomark _ | with_unfolding_all rfl) : PT X (.Compare a [op] [b] pos) (qB (tOp r ta tb)) := by
  intro pins s σ H Q I h
  refine wpAny_isTrue_Compare1 (thn (ha pins s σ H _ I h) fun v s1 ⟨x, H1, I1, r1, q1⟩ => thn (hb pins s1 σ H1 _ I1 q1) fun u s2 ⟨y, H2, I2, r2, q2⟩ =>
    thn (ho pins s2 σ H2 x y v u _ I2 r1 r2 q2) fun c s3 ⟨z, H3, I3, r3, q3⟩ => ?_) hm
  dsimp only at q3
  split at q3
  · cases r3
    exact wpAny_truthy_bool ⟨H3, I3, q3⟩
  · rename_i i
    refine tru_ok pins s3 σ H3 _ c Q I3 r3 ⟨_, rfl, ?_⟩
    have e : (i != 0) = !decide (i = 0) := by by_cases h : i = 0 <;> simp [h]
    rw [e]; exact q3
  · exact q3.elim
theorem peC {a b : Expr} {ta tb : TE} {pos : Pos} {op : CmpOp} {r : R2} (ho : OpR X (compareOp op) r) (ha : PE X a ta) (hb : PE X b tb) (hm : behindInMarks op b = false := by first | exact nomark _ | with_unfolding_all rfl) : PE X (.Compare a [op] [b] pos) (tOp r ta tb) :=
  pe_cmpR ho ha hb hm

variable {a b : Expr} {rest : List Expr} {tA tB' : TT} {ta tb : TE} {pos : Pos}
def qAnd (t u : TT) : TT := fun σ H Q => t σ H fun c H1 => br c (u σ H1 Q) (Q false H1)
def qOr (t u : TT) : TT := fun σ H Q => t σ H fun c H1 => br c (Q true H1) (u σ H1 Q)
theorem pwAnd (ha : PT X a tA) (hb : PW X (.BoolOp .And (b :: rest) pos) tB') : PW X (.BoolOp .And (a :: b :: rest) pos) (qAnd tA tB') := fun wh pins s σ H Q I h =>
  pw_and ha hb wh pins s σ H Q I (by unfold qAnd at h; simp only [br_iff] at h; exact h)
theorem pwOr (ha : PT X a tA) (hb : PW X (.BoolOp .Or (b :: rest) pos) tB') : PW X (.BoolOp .Or (a :: b :: rest) pos) (qOr tA tB') := fun wh pins s σ H Q I h =>
  pw_or ha hb wh pins s σ H Q I (by unfold qOr at h; simp only [br_iff] at h; exact h)
def qAndV (ta tb : TE) : TE := fun σ H Q => ta σ H fun x H1 => match x with
  | .bl c => br c (tb σ H1 Q) (Q (.bl false) H1)
  | _ => False
def qNotV (ta : TE) : TE := fun σ H Q => ta σ H fun x H1 => match x with
  | .bl c => Q (.bl (!c)) H1
  | _ => False
theorem peAnd (ha : PE X a ta) (hb : PE X (.BoolOp .And (b :: rest) pos) tb) : PE X (.BoolOp .And (a :: b :: rest) pos) (qAndV ta tb) := by
  intro pins s σ H Q I h
  refine BoolOp_and (thn (ha pins s σ H _ I h) fun v s1 ⟨x, H1, I1, r1, q1⟩ => ?_)
  dsimp only at q1
  split at q1
  · rename_i c
    cases r1
    refine wpAny_truthy_bool ?_
    rw [br_iff] at q1
    cases c with
    | true => exact hb pins s1 σ H1 Q I1 (by simpa using q1)
    | false => exact ⟨.bl false, H1, I1, rfl, by simpa using q1⟩
  · exact q1.elim
theorem peNot (ha : PE X a ta) : PE X (.UnaryOp .Not a pos) (qNotV ta) := by
  intro pins s σ H Q I h
  refine UnaryOp_ (thn (ha pins s σ H _ I h) fun v s1 ⟨x, H1, I1, r1, q1⟩ => ?_)
  dsimp only at q1
  split at q1
  · rename_i c
    cases r1
    exact not_of (wpAny_truthy_bool ⟨.bl (!c), H1, I1, rfl, q1⟩)
  · exact q1.elim
/-! ### statements -/
variable {st : Stmt} {t u : TS} {e : Expr} {te : TE}
def qIfS (c : TT) (t u : TS) : TS := fun D σ H => c σ H fun b H1 => br b (t D σ H1) (u D σ H1)
theorem psIf {c : Expr} {a b : List Stmt} {tc : TT} (hc : PT X c tc) (ha : PSs X a t) (hb : PSs X b u) : PS X (.If c a b pos) (qIfS tc t u) := fun pins s σ H D I h =>
  ps_if hc ha hb pins s σ H D I (by unfold qIfS at h; simp only [br_iff] at h; exact h)
@[irreducible] def loopW (J : It) (g : TG) (tb : TS) (D : Ends) (σ : St) (H1 : Hp) : Prop := ∃ W : Nat → Nat → St → Hp → Prop, (∃ m, W 0 m σ H1) ∧ ∀ i m σ H, W i m σ H →
  (J.stop i H ∧ D.nx σ H) ∨ (J.go i H ∧ ∃ N : St → Hp → Prop, (∀ σ' H', N σ' H' → ∃ m', m' < m ∧ W (i + 1) m' σ' H') ∧ ∀ x H', J.yld i H x H' → g x σ H' fun σ2 H2 => tb { D with nx := N, ct := N, bk := D.nx } σ2 H2)
def qFor (wi : TI) (g : TG) (tb : TS) : TS := fun D σ H => wi σ H fun J H1 => loopW J g tb D σ H1
theorem psFor {iter tg : Expr} {body : List Stmt} {wi : TI} {g : TG} {tb : TS} {pos : Pos} (hp : PassesOwn (model X.prog X.w) X.A X.env X.xe) (hc : X.calm = true) (hi : PI X tg iter wi) (hg : PG X tg g) (hb : PSs X body tb)
    (hs : ∀ x, foldedSetIterable iter X.env x = pure x := by intro _; rfl) : PS X (.For tg iter body [] pos) (qFor wi g tb) := fun pins s σ H D I h =>
  ps_for hp hc hi hg hb hs pins s σ H D I (by unfold qFor at h; unfold loopW at h; exact h)
@[irreducible] def rIter (K : PySem.W.Frag) (a : Addr) (H : Hp) (R : It → Hp → Prop) : Prop := ((∃ xs, SqL K H a xs) ∧ R (Itl K a) H) ∨ ((∃ xs, SqT K H a xs) ∧ R (Itt K a) H)
def qiSeq (K : PySem.W.Frag) (tl : TE) : TI := fun σ H R => tl σ H fun x H1 => match x with
  | .ref a => rIter K a H1 R
  | _ => False
theorem piSeq {tg l : Expr} {tl : TE} (hl : PE X l tl) : PI X tg l (qiSeq X.K tl) := by
  intro pins s σ H R I h
  refine thn (hl pins s σ H _ I h) fun v s1 ⟨x, H1, I1, r1, q1⟩ => ?_
  dsimp only at q1
  split at q1
  · rename_i a
    unfold rIter at q1
    cases r1
    have fp : ∀ b ∈ [s1.heap.objs.size], FpOk X pins H1 b := fun b hb => by
      have e : b = s1.heap.objs.size := by simpa using hb
      subst e
      exact I1.fpOk (Nat.le_refl _) (I1.hok.fresh (Nat.le_refl _))
    rcases q1 with ⟨⟨xs, hq⟩, q⟩ | ⟨⟨xs, hq⟩, q⟩
    · obtain ⟨its, rv, p, hz⟩ := I1.list hq
      refine wpAny_pyIter_list p.isList ?_
      exact ⟨s1.heap.objs.size, [s1.heap.objs.size], _, _, H1, rfl, I1.kept (t' := s1.toks) fun b o e => Heap.get?_push_of_some _ e, turn_list a _, ⟨_, Heap.get?_push_size _ rfl, rfl, rfl⟩, fp, q⟩
    · obtain ⟨its, rv, p, hz⟩ := I1.tuple hq
      refine wpAny_pyIter_tuple (show s1.heap.IsTuple a its.toArray from p) ?_
      exact ⟨s1.heap.objs.size, [s1.heap.objs.size], _, _, H1, rfl, I1.kept (t' := s1.toks) fun b o e => Heap.get?_push_of_some _ e, turn_tuple a _, ⟨_, Heap.get?_push_size _ rfl, rfl, rfl⟩, fp, q⟩
  · exact q1.elim
@[irreducible] def rRange (i j : Int) (H : Hp) (R : It → Hp → Prop) : Prop := (-(2 ^ 62) ≤ i ∧ i < 2 ^ 62 ∧ -(2 ^ 62) ≤ j ∧ j < 2 ^ 62) ∧ R (Itr i (j - i).toNat) H
def qiRng (ta : TA) : TI := fun σ H R => ta σ H fun vs H1 => match vs with
  | [.int j] => rRange 0 j H1 R
  | [.int i, .int j] => rRange i j H1 R
  | _ => False
theorem piRng1 {tg a : Expr} {ta : TA} {p pos : Pos} (hm : X.mg "range" = none) (ha : PA X [a] ta) (hg : Gl X "range" := by rfl) (hs : starEach [a] X.env = [(false, eval a X.env)] := by rfl) : PI X tg (.Call (.Name "range" p) [a] [] pos) (qiRng ta) := by
  intro pins s σ H R I h
  refine Call_ (ld_blt I hg hm boot_range (PyProof.Rows.callWith_type1 (thn (ha pos pins s σ H _ I h) fun us s1 ⟨vs, H1, I1, r1, q1⟩ => ?_) hs rfl))
  dsimp only at q1
  split at q1
  · unfold rRange at q1
    obtain ⟨⟨a1, a2, a3, a4⟩, q⟩ := q1
    cases r1 with
    | cons r rr =>
      cases rr
      obtain ⟨t, rfl⟩ := r
      exact call_range_1 (range_it I1 a1 a2 a3 a4 q)
  · unfold rRange at q1
    cases r1 with
    | cons r rr =>
      cases rr with
      | cons r' rr =>
        cases rr
        obtain ⟨t, rfl⟩ := r
        obtain ⟨t', rfl⟩ := r'
        obtain ⟨⟨a1, a2, a3, a4⟩, q⟩ := q1
        exact call_range_2 (range_it I1 a1 a2 a3 a4 q)
  · exact q1.elim
/-! the loops' readings -/
section
variable {K : PySem.W.Frag} {g : TG} {tb : TS} {D : Ends} {σ : St} {H : Hp} {R : It → Hp → Prop}
theorem iterL_rd {a : Addr} {xs : List V} (h : H a = some (.lst xs)) (q : R (Itl K a) H) : rIter K a H R := by unfold rIter; exact .inl ⟨⟨xs, SqL.of h⟩, q⟩
theorem iterT_rd {a : Addr} {xs : List V} (h : H a = some (.tup xs)) (q : R (Itt K a) H) : rIter K a H R := by unfold rIter; exact .inr ⟨⟨xs, SqT.of h⟩, q⟩
theorem range_rd {i j : Int} (h1 : -(2 ^ 62) ≤ i) (h2 : i < 2 ^ 62) (h3 : -(2 ^ 62) ≤ j) (h4 : j < 2 ^ 62) (q : R (Itr i (j - i).toNat) H) : rRange i j H R := by unfold rRange; exact ⟨⟨h1, h2, h3, h4⟩, q⟩
theorem loop_list {a : Addr} {xs : List V} (Pv : Nat → St → Hp → Prop) (h0 : Pv 0 σ H) (hl : ∀ i σ H, i ≤ xs.length → Pv i σ H → SqL K H a xs)
    (hs : ∀ i x σ H, xs[i]? = some x → Pv i σ H → g x σ H fun σ2 H2 => tb { D with nx := Pv (i + 1), ct := Pv (i + 1), bk := D.nx } σ2 H2) (hd : ∀ σ H, Pv xs.length σ H → D.nx σ H) : loopW (Itl K a) g tb D σ H := by
  unfold loopW; exact for_list Pv h0 hl hs hd
theorem loop_range {lo : Int} {n : Nat} (Pv : Nat → St → Hp → Prop) (h0 : Pv 0 σ H)
    (hs : ∀ i σ H, i < n → Pv i σ H → g (.int (lo + i)) σ H fun σ2 H2 => tb { D with nx := Pv (i + 1), ct := Pv (i + 1), bk := D.nx } σ2 H2) (hd : ∀ σ H, Pv n σ H → D.nx σ H) : loopW (Itr lo n) g tb D σ H := by
  unfold loopW; exact for_range Pv h0 hs hd
end
/-! while -/
section
variable {c : TT} {tb : TS} {D : Ends} {σ : St} {H H1 : Hp} {W : Nat → St → Hp → Prop} {m : Nat} {p : Prop}
end

/-! ### displays, index, store, slices -/
@[irreducible] def rNewT (xs : List V) (H : Hp) (Q : VK) : Prop := xs.length ≤ sizeLine ∧ ∀ p H', H p = none → Same H H' → H' p = some (.tup xs) → Q (.ref p) H'
@[irreducible] def rNewL (xs : List V) (H : Hp) (Q : VK) : Prop := xs.length ≤ sizeLine ∧ ∀ p H', H p = none → Same H H' → H' p = some (.lst xs) → Q (.ref p) H'
def qTup (t : TA) : TE := fun σ H Q => t σ H fun xs H1 => rNewT xs H1 Q
def qLst (t : TA) : TE := fun σ H Q => t σ H fun xs H1 => rNewL xs H1 Q
theorem peTup {es : List Expr} {x1} {t : TA} (h : PA X es t) : PE X (.Tuple es x1 pos) (qTup t) := by
  intro pins s σ H Q I hq
  refine wpAny_Tuple_spliced (thn (h pos pins s σ H _ I hq) fun us s1 ⟨xs, H1, I1, r, z⟩ => ?_)
  unfold rNewT at z
  obtain ⟨z, q⟩ := z
  refine ⟨by rw [← r.length]; exact z, ?_⟩
  have hf : H1 s1.heap.objs.size = none := I1.hok.fresh (Nat.le_refl _)
  refine ⟨.ref s1.heap.objs.size, upd H1 s1.heap.objs.size (.tup xs), I1.laid (t' := s1.toks) (fun b u e => Heap.get?_push_of_some _ e) (Nat.le_refl _) ?_, rfl, q _ _ hf (Same.upd hf) upd_same⟩
  exact ⟨z, us, r, ⟨_, Heap.get?_push_size _ rfl, rfl, _, rfl⟩⟩
theorem peLst {es : List Expr} {t : TA} (h : PA X es t) : PE X (.List es pos) (qLst t) := by
  intro pins s σ H Q I hq
  refine wpAny_List_spliced (thn (h pos pins s σ H _ I hq) fun us s1 ⟨xs, H1, I1, r, z⟩ => ?_)
  unfold rNewL at z
  obtain ⟨z, q⟩ := z
  refine ⟨by rw [← r.length]; exact z, ?_⟩
  have hf : H1 s1.heap.objs.size = none := I1.hok.fresh (Nat.le_refl _)
  refine ⟨.ref s1.heap.objs.size, upd H1 s1.heap.objs.size (.lst xs), I1.laid (t' := s1.toks) (fun b u e => Heap.get?_push_of_some _ e) (Nat.le_refl _) ?_, rfl, q _ _ hf (Same.upd hf) upd_same⟩
  exact ⟨z, us, 0, r, Heap.get?_push_size _ rfl⟩
@[irreducible] def rIxA (K : PySem.W.Frag) (p : Addr) (i : Int) (H : Hp) (Q : VK) : Prop := ∃ xs v, (SqL K H p xs ∨ SqT K H p xs) ∧ atI xs i = some v ∧ Q v H
def rIxM (K : PySem.W.Frag) : R2 := fun x y H Q => match x, y with
  | .ref p, .int i => rIxA K p i H Q
  | .str z, .int i => ∃ c, z.length ≤ sizeLine ∧ atI z.cps.toList i = some c ∧ Q (.str ⟨#[c]⟩) H
  | _, _ => False
theorem ixM : IxR X (rIxM X.K) := by
  intro value slice pins s σ H x y v u Q I rx ry h hs
  unfold rIxM at h
  split at h
  · unfold rIxA at h
    obtain ⟨xs, z, h1, h2, q⟩ := h
    rcases h1 with h1 | h1
    · exact ix_list value slice pins s σ H _ _ v u Q I rx ry ⟨_, xs, _, z, rfl, rfl, h1, h2, q⟩ hs
    · exact ix_tup value slice pins s σ H _ _ v u Q I rx ry ⟨_, xs, _, z, rfl, rfl, h1, h2, q⟩ hs
  · obtain ⟨c, h1, h2, q⟩ := h
    exact ix_str value slice pins s σ H _ _ v u Q I rx ry ⟨_, _, c, rfl, rfl, h1, h2, q⟩ hs
  · exact h.elim
theorem peIx (ha : PE X a ta) (hb : PE X b tb) (hs : PlainIx b := by exact fun _ _ => rfl) : PE X (.Subscript a b pos) (tOp (rIxM X.K) ta tb) := pe_ix ixM ha hb hs
@[irreducible] def rSetA (p : Addr) (k : Int) (v : V) (H : Hp) (Q : Hp → Prop) : Prop := ∃ xs j, H p = some (.lst xs) ∧ ixN xs.length k = some j ∧ ∀ H', Chg p H H' → H' p = some (.lst (xs.set j v)) → Q H'
def rSetM : TSet := fun o i v H Q => match o, i with
  | .ref p, .int k => rSetA p k v H Q
  | _, _ => False
theorem setM : PSet X rSetM := by
  intro pins s σ H o i v ov iv u Q I ro ri rv h
  unfold rSetM at h
  split at h
  · unfold rSetA at h
    obtain ⟨xs, j, h1, h2, q⟩ := h
    exact set_list pins s σ H _ _ v ov iv u Q I ro ri rv ⟨_, xs, _, j, rfl, rfl, h1, h2, q _ Chg.upd upd_same⟩
  · exact h.elim
def qPart (t : TE) : TO := fun σ H Q => t σ H fun x H1 => match x with
  | .int i => Q (some i) H1
  | _ => False
theorem poSome (h : PE X e te) : PO X (some e) (qPart te) := by
  intro pins s σ H Q I hw
  rw [evalPart_some]
  refine thn (h pins s σ H _ I hw) fun u s1 ⟨x, H1, I1, r1, q1⟩ => ?_
  dsimp only at q1
  split at q1
  · rename_i i
    obtain ⟨t, rfl⟩ := r1
    exact ⟨some i, H1, I1, .int i t, q1⟩
  · exact q1.elim
section
variable {K : PySem.W.Frag} {H : Hp} {Q : VK} {p : Addr} {xs : List V} {v : V} {i : Int}
theorem newT_rd (q : ∀ p H', H p = none → Same H H' → H' p = some (.tup xs) → Q (.ref p) H') (h : xs.length ≤ sizeLine := by first | assumption | (simp only [List.length_cons, List.length_nil, Nat.zero_add, Nat.reduceAdd]; decide)) : rNewT xs H Q := by unfold rNewT; exact ⟨h, q⟩
theorem newL_rd (q : ∀ p H', H p = none → Same H H' → H' p = some (.lst xs) → Q (.ref p) H') (h : xs.length ≤ sizeLine := by first | assumption | (simp only [List.length_cons, List.length_nil, Nat.zero_add, Nat.reduceAdd]; decide)) : rNewL xs H Q := by unfold rNewL; exact ⟨h, q⟩
theorem ixT_rd (h : H p = some (.tup xs)) (e : atI xs i = some v) (q : Q v H) : rIxA K p i H Q := by unfold rIxA; exact ⟨xs, v, .inr (SqT.of h), e, q⟩
theorem ixL_rd (h : H p = some (.lst xs)) (e : atI xs i = some v) (q : Q v H) : rIxA K p i H Q := by unfold rIxA; exact ⟨xs, v, .inl (SqL.of h), e, q⟩
theorem set_rd {R : Hp → Prop} {j : Nat} (h : H p = some (.lst xs)) (e : ixN xs.length i = some j) (q : ∀ H', Chg p H H' → H' p = some (.lst (xs.set j v)) → R H') : rSetA p i v H R := by unfold rSetA; exact ⟨xs, j, h, e, q⟩
end

/-! ### tuple targets -/
def qgNil : TGs := fun vs σ H Q => match vs with
  | [] => Q σ H
  | _ => False
def qgCons (t : TG) (u : TGs) : TGs := fun vs σ H Q => match vs with
  | v :: r => t v σ H fun σ' H' => u r σ' H' Q
  | _ => False
theorem pgsNil : PGs X [] qgNil := fun pins s σ H vs us Q I r h => by
  unfold qgNil at h
  split at h
  · exact pgs_nil pins s σ H _ us Q I r ⟨rfl, h⟩
  · exact h.elim
theorem pgsCons {e : Expr} {es : List Expr} {t : TG} {u : TGs} (h1 : PG X e t) (h2 : PGs X es u)
    (hs : (assignEach (e :: es) X.env).map (·.2) = assign e X.env :: (assignEach es X.env).map (·.2) := by rfl) : PGs X (e :: es) (qgCons t u) := fun pins s σ H vs us Q I r h => by
  unfold qgCons at h
  split at h
  · exact pgs_cons h1 h2 hs pins s σ H _ us Q I r ⟨_, _, rfl, h⟩
  · exact h.elim
end
end L2

set_option Elab.async false
set_option linter.all false
set_option maxRecDepth 100000
set_option maxHeartbeats 1000000
namespace L2
open PySem PySem.Spec PyProof.Rows
section
variable {X : Cx}
/-! ### built-in calls, by values -/
def rAbsM : List V → Hp → VK → Prop := fun xs H Q => match xs with
  | [.int i] => Q (.int (i.natAbs : Int)) H
  | _ => False
@[irreducible] def rLenA (K : PySem.W.Frag) (p : Addr) (H : Hp) (Q : VK) : Prop := ∃ ys, (SqL K H p ys ∨ SqT K H p ys) ∧ Q (.int ys.length) H
def rLenM (K : PySem.W.Frag) : List V → Hp → VK → Prop := fun xs H Q => match xs with
  | [.ref p] => rLenA K p H Q
  | [.str z] => z.length ≤ sizeLine ∧ Q (.int z.length) H
  | _ => False
theorem cLen : CallR X (.builtin "len") (rLenM X.K) := fun pins s σ H xs us Q I r h => by
  unfold rLenM at h
  split at h
  · unfold rLenA at h
    obtain ⟨ys, h1, h2⟩ := h
    exact call_len_seq pins s σ H _ us Q I r ⟨_, ys, rfl, h1, h2⟩
  · exact call_len_str pins s σ H _ us Q I r ⟨_, rfl, h.1, h.2⟩
  · exact h.elim
@[irreducible] def rIsiA (K : PySem.W.Frag) (x c : V) (H : Hp) (Q : VK) : Prop := ∃ t b, TyOf K H x t ∧ (∀ cv, RelV c cv → PySem.W.kitOne K t cv = some b) ∧ Q (.bl b) H
def rIsiM (K : PySem.W.Frag) : List V → Hp → VK → Prop := fun xs H Q => match xs with
  | [x, c] => rIsiA K x c H Q
  | _ => False
theorem cIsi : CallR X (.builtin "isinstance") (rIsiM X.K) := fun pins s σ H xs us Q I r h => by
  unfold rIsiM at h
  split at h
  · unfold rIsiA at h
    obtain ⟨t, b, h1, h2, h3⟩ := h
    obtain ⟨u, w, rfl, r1, r2⟩ := vals2 r
    exact isinst_ok I r1 h1 (h2 _ r2) fun tk => ⟨.bl b, H, I.tok _, rfl, h3⟩
  · exact h.elim
section
variable {K : PySem.W.Frag} {H : Hp} {Q : VK} {p : Addr} {xs : List V}
theorem lenL_rd (h : H p = some (.lst xs)) (q : Q (.int xs.length) H) : rLenA K p H Q := by unfold rLenA; exact ⟨xs, .inl (SqL.of h), q⟩
theorem lenT_rd (h : H p = some (.tup xs)) (q : Q (.int xs.length) H) : rLenA K p H Q := by unfold rLenA; exact ⟨xs, .inr (SqT.of h), q⟩
theorem isiI_rd {i : Int} {n : String} {b : Bool} (q : Q (.bl b) H) (e : PySem.W.kitOne K (.type "int") (.type n) = some b := by rfl) : rIsiA K (.int i) (.ty n) H Q := by
  unfold rIsiA; exact ⟨_, b, .int i, fun cv r => by cases r; exact e, q⟩
theorem isiB_rd {i : Bool} {n : String} {b : Bool} (q : Q (.bl b) H) (e : PySem.W.kitOne K (.type "bool") (.type n) = some b := by rfl) : rIsiA K (.bl i) (.ty n) H Q := by
  unfold rIsiA; exact ⟨_, b, .bl i, fun cv r => by cases r; exact e, q⟩
theorem isiN_rd {n : String} {b : Bool} (q : Q (.bl b) H) (e : PySem.W.kitOne K (.type "NoneType") (.type n) = some b := by rfl) : rIsiA K .non (.ty n) H Q := by
  unfold rIsiA; exact ⟨_, b, .non, fun cv r => by cases r; exact e, q⟩
theorem isiS_rd {x : Str} {n : String} {b : Bool} (q : Q (.bl b) H) (e : PySem.W.kitOne K (.type "str") (.type n) = some b := by rfl) : rIsiA K (.str x) (.ty n) H Q := by
  unfold rIsiA; exact ⟨_, b, .str x, fun cv r => by cases r; exact e, q⟩
theorem isiT_rd {n : String} {b : Bool} (h : H p = some (.tup xs)) (q : Q (.bl b) H) (e : PySem.W.kitOne K (.type "tuple") (.type n) = some b := by rfl) : rIsiA K (.ref p) (.ty n) H Q := by
  unfold rIsiA; exact ⟨_, b, .tup h, fun cv r => by cases r; exact e, q⟩
theorem isiL_rd {n : String} {b : Bool} (h : H p = some (.lst xs)) (q : Q (.bl b) H) (e : PySem.W.kitOne K (.type "list") (.type n) = some b := by rfl) : rIsiA K (.ref p) (.ty n) H Q := by
  unfold rIsiA; exact ⟨_, b, .lst h, fun cv r => by cases r; exact e, q⟩
end
/-! the names of the built-ins -/
theorem bt_len : bootBuiltins "len" = some (.builtin "len") := by decide +kernel
theorem bt_sum : bootBuiltins "sum" = some (.builtin "sum") := by decide +kernel
theorem bt_all : bootBuiltins "all" = some (.builtin "all") := by decide +kernel
theorem bt_isinstance : bootBuiltins "isinstance" = some (.builtin "isinstance") := by decide +kernel
theorem bt_sorted : bootBuiltins "sorted" = some (.builtin "sorted") := by decide +kernel
theorem bt_int : bootBuiltins "int" = some (.type "int") := by decide +kernel
theorem bt_bool : bootBuiltins "bool" = some (.type "bool") := by decide +kernel
theorem bt_list : bootBuiltins "list" = some (.type "list") := by decide +kernel
theorem bt_tuple : bootBuiltins "tuple" = some (.type "tuple") := by decide +kernel
theorem pTy {x : Str} {n : String} {pos : Pos} (hm : X.mg x = none) (hv : bootBuiltins x = some (.type n)) (hg : Gl X x := by rfl) (hn : x ≠ "__name__" := by decide) (hd : (x == ("__debug__" : Str)) = false := by decide) : PE X (.Name x pos) (tC (.ty n)) :=
  pe_bltn hg hm hv rfl hn hd
theorem pB {x : Str} {p pos : Pos} {e : Expr} {es : List Expr} {t : TA} {id : String} {r : List V → Hp → VK → Prop} (hc : CallR X (.builtin id) r) (hm : X.mg x = none) (hv : bootBuiltins x = some (.builtin id)) (ha : PA X (e :: es) t) (hg : Gl X x := by rfl) (hn : x ≠ "__name__" := by decide) (hdb : (x == ("__debug__" : Str)) = false := by decide)
    (he : starEach (e :: es) X.env = (false, eval e X.env) :: starEach es X.env := by rfl) (hpl : (backTo pos (starEach es X.env)).any (·.1) = false := by rfl) : PE X (.Call (.Name x p) (e :: es) [] pos) (tCB r t) := pe_callB hc hg hm hv ha hn hdb he hpl
theorem pT {x : Str} {p pos : Pos} {e : Expr} {es : List Expr} {t : TA} {id : String} {r : List V → Hp → VK → Prop} (hc : CallR X (.type id) r) (hm : X.mg x = none) (hv : bootBuiltins x = some (.type id)) (ha : PA X (e :: es) t) (hg : Gl X x := by rfl) (hn : x ≠ "__name__" := by decide) (hdb : (x == ("__debug__" : Str)) = false := by decide)
    (he : starEach (e :: es) X.env = (false, eval e X.env) :: starEach es X.env := by rfl) (hpl : (backTo pos (starEach es X.env)).any (·.1) = false := by rfl) : PE X (.Call (.Name x p) (e :: es) [] pos) (tCB r t) := pe_callTy hc hg hm hv ha hn hdb he hpl
/-! a def of the text, called: what is known of it -/
structure Def (P : Program) (w : World) (K : PySem.W.Frag) (mg : Str → Option Value) (base : Heap) (CX : CXT) (k : Nat) (x : Str) (ps : List Str) (sp : Sp) : Prop where
  ex : ∃ (f : Addr) (fd : FuncData), FnOk P w K mg base CX k f fd ps sp ∧ mg x = some (.ref f) ∧ PySem.W.keepIn K (.ref f) = true ∧ Binds K fd ps []
def qCall (sp : Sp) (E : XK) (t : TA) : TE := fun σ H Q => t σ H fun vs H1 => sp vs H1 Q E
theorem pD {CX : CXT} {k j : Nat} {x : Str} {ps : List Str} {sp : Sp} {E : XK} {p pos : Pos} {e : Expr} {es : List Expr} {t : TA} (F : Def X.prog X.w X.K X.mg X.base CX k x ps sp) (hr : Room j X.A) (hx : Passes CX X E) (ha : PA X (e :: es) t) (hk : k ≤ j := by decide) (hg : Gl X x := by rfl)
    (hdb : (x == ("__debug__" : Str)) = false := by decide) (he : starEach (e :: es) X.env = (false, eval e X.env) :: starEach es X.env := by rfl) (hpl : (backTo pos (starEach es X.env)).any (·.1) = false := by rfl) :
    PE X (.Call (.Name x p) (e :: es) [] pos) (qCall sp E t) := by
  obtain ⟨f, fd, F1, F2, F3, F4⟩ := F.ex
  intro pins s σ H Q I h
  refine pe_call F1 (hr.mono hk) hg F2 F3 F4 .nil hx ha hdb he hpl pins s σ H Q I ?_
  unfold tCall
  simp only [List.append_nil]
  exact h
theorem psS {i : Nat} {x : Str} {e : Expr} {te : TE} {pos' pos : Pos} (hN : X.N.Nodup) (he : PE X e te) (hi : X.N[i]? = some x := by rfl) (hx : Loc X.env.scope x := by first | exact Or.inl rfl | exact Or.inr rfl) (hs : swapsWith e (some (.Name x pos')) pos.line X.env = pure false := by rfl) (hf : X.fn x = true ∨ X.env.scope.names.lookup x = some .local := by first | exact .inl rfl | exact .inr rfl | assumption) :
    PS X (.Assign [.Name x pos'] e pos) (tAsg te (gName i)) := ps_set hN hi hx he hs hf
section
variable {K : PySem.W.Frag} {H : Hp} {Q : VK} {p : Addr} {xs : List V} {i j : Int}
theorem mulL_rd (h1 : -18446744073709551616 < i) (h2 : i < 18446744073709551616) (q : Q (.int (i * j)) H) : rMulI i j H Q := mul_rd (.of_left (intBits_le_64 (by simpa using h1) (by simpa using h2))) q
theorem mulR_rd (h1 : -18446744073709551616 < j) (h2 : j < 18446744073709551616) (q : Q (.int (i * j)) H) : rMulI i j H Q := mul_rd (.of_right (intBits_le_64 (by simpa using h1) (by simpa using h2))) q
/-- a remainder, by its bounds alone -/
theorem modG_rd (h : 0 < j) (q : ∀ r : Int, 0 ≤ r → r < j → Q (.int r) H) : rModI i j H Q := mod_rd h (q _ (Int.emod_nonneg _ (by omega)) (Int.emod_lt_of_pos _ h))
/-- an item at a drawn place -/
theorem ixAny_rd (h : H p = some (.lst xs)) (h0 : 0 ≤ i) (h1 : i < xs.length) (q : ∀ v, v ∈ xs → Q v H) : rIxA K p i H Q := by
  have hl : i.toNat < xs.length := by omega
  refine ixL_rd h (v := xs[i.toNat]) ?_ (q _ (List.getElem_mem hl))
  have e : ((i.toNat : Nat) : Int) = i := by omega
  have z := atI_nat (List.getElem?_eq_getElem hl)
  rw [e] at z
  exact z
theorem hu40 {A : Around} {k : Nat} (hr : Room k A) : A.units + 40 < cLine := by have := hr.units; omega
end
/-! ### a word between two statements -/
/-! the script's numbers -/
theorem cut_mem {xs : List V} {lo hi : Option Int} {x : V} (h : x ∈ cutV xs lo hi) : x ∈ xs := List.mem_of_mem_drop (List.mem_of_mem_take h)
theorem EqR.ints2 {K : PySem.W.Frag} {H : Hp} {a b : Addr} {t u x y : Int} (ha : H a = some (.tup [.int t, .int u])) (hb : H b = some (.tup [.int x, .int y])) : EqR K H 1 (.ref a) (.ref b) (decide (t = x ∧ u = y)) := by
  have h := EqR.tup (K := K) (H := H) (n := 0) (fun j => match j with | 0 => decide (t = x) | 1 => decide (u = y) | _ => true) (SqT.of ha) (SqT.of hb) (fun j p q hp hq => by
    have fl : ∀ (i k : Int), EqR K H 0 (.int i) (.int k) (decide (i = k)) := fun i k => by
      have := EqR.flat (K := K) (H := H) (n := 0) (x := .int i) (y := .int k) rfl rfl
      have e : eqV (.int i) (.int k) = decide (i = k) := by
        by_cases z : i = k
        · subst z; simp [eqV]
        · simp [eqV, z]
      rw [e] at this; exact this
    match j with
    | 0 => simp at hp hq; subst hp hq; exact fl t x
    | 1 => simp at hp hq; subst hp hq; exact fl u y
    | j + 2 => simp at hp)
  have e : ((List.range (min [V.int t, V.int u].length [V.int x, V.int y].length)).all (fun j => match j with | 0 => decide (t = x) | 1 => decide (u = y) | _ => true) && ([V.int t, V.int u].length == [V.int x, V.int y].length)) = decide (t = x ∧ u = y) := by
    show ((decide (t = x) && (decide (u = y) && true)) && true) = _
    rw [Bool.and_true, Bool.and_true, Bool.decide_and]
  rw [e] at h
  exact h
end
end L2

set_option Elab.async false
set_option linter.all false
set_option maxRecDepth 100000
set_option maxHeartbeats 2000000
namespace L2
open PySem PySem.Spec PyProof.Rows
/-! ### comprehensions -/
theorem closure_go {env : Env} : ∀ (names : List (Str × NameKind)) (acc : List (Str × Addr)), (∀ x ∈ names, x.2 = .free → ∃ c, env.cells.lookup x.1 = some c) →
    ∃ acc', (forIn (m := Sem) names acc (fun (x : Str × NameKind) (r : List (Str × Addr)) => if (x.2 == .free) = true then (do let c ← cellOf env x.1; pure (ForInStep.yield ((x.1, c) :: r))) else pure (ForInStep.yield r))) = pure acc' ∧
      (∀ x c, acc'.lookup x = some c → acc.lookup x = some c ∨ env.cells.lookup x = some c) ∧ (∀ x c, acc.lookup x = some c → ∃ c', acc'.lookup x = some c') ∧ ∀ x ∈ names, x.2 = .free → ∃ c, acc'.lookup x.1 = some c
  | [], acc, _ => ⟨acc, rfl, fun _ _ h => .inl h, fun _ c h => ⟨c, h⟩, fun _ h => by cases h⟩
  | (n, k) :: r, acc, h => by
    by_cases hk : k = .free
    · subst hk
      obtain ⟨c, hc⟩ := h (n, .free) List.mem_cons_self rfl
      obtain ⟨acc', e, h1, h2, h3⟩ := closure_go r ((n, c) :: acc) fun x hx => h x (List.mem_cons_of_mem _ hx)
      have hco : cellOf env n = pure c := by unfold cellOf; rw [hc]
      refine ⟨acc', ?_, fun x d hd => ?_, fun x d hd => ?_, fun x hx hf => ?_⟩
      · rw [List.forIn_cons]
        simp only [hco]
        exact e
      · rcases h1 x d hd with q | q
        · rw [List.lookup_cons] at q
          split at q
          · rename_i hx
            have hx : x = n := by simpa using hx
            subst hx
            cases q
            exact .inr hc
          · exact .inl q
        · exact .inr q
      · by_cases hx : x = n
        · subst hx
          exact h2 x c (by simp [List.lookup_cons])
        · refine h2 x d ?_
          rw [List.lookup_cons]
          have : (x == n) = false := by simpa using hx
          rw [this]; exact hd
      · rcases List.mem_cons.mp hx with rfl | hx
        · exact h2 n c (by simp [List.lookup_cons])
        · exact h3 x hx hf
    · obtain ⟨acc', e, h1, h2, h3⟩ := closure_go r acc fun x hx => h x (List.mem_cons_of_mem _ hx)
      refine ⟨acc', ?_, h1, h2, fun x hx hf => ?_⟩
      · rw [List.forIn_cons]
        have : (k == NameKind.free) = false := by simpa using hk
        simp only [this]
        exact e
      · rcases List.mem_cons.mp hx with rfl | hx
        · exact absurd hf hk
        · exact h3 x hx hf
theorem closure_ok {scope : Scope} {env : Env} (h : ∀ x ∈ scope.names, x.2 = .free → ∃ c, env.cells.lookup x.1 = some c) :
    ∃ cl, closureFor scope env = pure cl ∧ (∀ x c, cl.lookup x = some c → env.cells.lookup x = some c) ∧ ∀ x ∈ scope.names, x.2 = .free → ∃ c, cl.lookup x.1 = some c := by
  obtain ⟨cl, e, h1, _, h3⟩ := closure_go (env := env) scope.names [] h
  refine ⟨cl, ?_, fun x c hc => (h1 x c hc).elim (fun q => by cases q) id, h3⟩
  unfold closureFor
  show (forIn (m := Sem) scope.names ([] : List (Str × Addr)) _ >>= fun r => pure r) = _
  rw [e]
  rfl
theorem relabel_free {env : Env} : ∀ {names : List (Str × NameKind)} {x : Str}, names.lookup x = some .free →
    (names.map fun (n, k) => if (k == NameKind.free && env.scope.kind == .function && env.kindOf n == some .cell) then (n, NameKind.cell) else (n, k)).lookup x = some .cell ∨
    (names.map fun (n, k) => if (k == NameKind.free && env.scope.kind == .function && env.kindOf n == some .cell) then (n, NameKind.cell) else (n, k)).lookup x = some .free
  | [], _, h => by simp at h
  | (n, k) :: r, x, h => by
    have ih := @relabel_free env r x
    show List.lookup x ((if (k == NameKind.free && env.scope.kind == .function && env.kindOf n == some .cell) = true then (n, NameKind.cell) else (n, k)) :: _) = _ ∨ List.lookup x ((if (k == NameKind.free && env.scope.kind == .function && env.kindOf n == some .cell) = true then (n, NameKind.cell) else (n, k)) :: _) = _
    cases hx : x == n with
    | true =>
      simp only [List.lookup_cons, hx] at h
      cases h
      by_cases hc : (NameKind.free == NameKind.free && env.scope.kind == .function && env.kindOf n == some .cell) = true
      · left; rw [if_pos hc]; simp only [List.lookup_cons, hx]
      · right; rw [if_neg hc]; simp only [List.lookup_cons, hx]
    | false =>
      simp only [List.lookup_cons, hx] at h
      by_cases hc : (k == NameKind.free && env.scope.kind == .function && env.kindOf n == some .cell) = true
      · rw [if_pos hc]; simp only [List.lookup_cons, hx]; exact ih h
      · rw [if_neg hc]; simp only [List.lookup_cons, hx]; exact ih h
/-- what a name's kind in the block says of the written scope -/
theorem relabel_kind {env : Env} : ∀ {names : List (Str × NameKind)} {x : Str} {k' : NameKind}, (∀ y ∈ names, y.2 ≠ .cell) → (k' = .cell ∨ k' = .free) →
    (names.map fun (n, k) => if (k == NameKind.free && env.scope.kind == .function && env.kindOf n == some .cell) then (n, NameKind.cell) else (n, k)).lookup x = some k' → ∃ y ∈ names, y.1 = x ∧ y.2 = .free
  | [], _, _, _, _, h => by simp at h
  | (n, k) :: r, x, k', hn, hk, h => by
    have ih := @relabel_kind env r x k' (fun y hy => hn y (List.mem_cons_of_mem _ hy)) hk
    replace h : List.lookup x ((if (k == NameKind.free && env.scope.kind == .function && env.kindOf n == some .cell) = true then (n, NameKind.cell) else (n, k)) :: List.map (fun (n, k) => if (k == NameKind.free && env.scope.kind == .function && env.kindOf n == some .cell) then (n, NameKind.cell) else (n, k)) r) = some k' := h
    cases hx : x == n with
    | true =>
      have hx' : x = n := by simpa using hx
      by_cases hf : k = .free
      · exact ⟨(n, k), List.mem_cons_self, hx'.symm, hf⟩
      · have hc : ¬ (k == NameKind.free && env.scope.kind == .function && env.kindOf n == some .cell) = true := by
          have : (k == NameKind.free) = false := by simpa using hf
          rw [this]; simp
        rw [if_neg hc] at h
        simp only [List.lookup_cons, hx] at h
        have : k = k' := Option.some.inj h
        subst this
        rcases hk with hk | hk
        · exact absurd hk (hn (n, k) List.mem_cons_self)
        · exact absurd hk hf
    | false =>
      have h' : List.lookup x (List.map (fun (n, k) => if (k == NameKind.free && env.scope.kind == .function && env.kindOf n == some .cell) then (n, NameKind.cell) else (n, k)) r) = some k' := by
        by_cases hc : (k == NameKind.free && env.scope.kind == .function && env.kindOf n == some .cell) = true
        · rw [if_pos hc] at h; simp only [List.lookup_cons, hx] at h; exact h
        · rw [if_neg hc] at h; simp only [List.lookup_cons, hx] at h; exact h
      obtain ⟨y, hy, h1, h2⟩ := ih h'
      exact ⟨y, List.mem_cons_of_mem _ hy, h1, h2⟩

/-- the context of a comprehension's block -/
def blk (X : Cx) (N : List Str) (scope : Scope) (cl : List (Str × Addr)) (C : Addr) (s3 : Shared) (H3 : Hp) (fp : List Addr) : Cx :=
  { X with N := N, s₀ := s3, H₀ := H3, env := compEnvC scope cl C X.env, outer := X.stack, ex := fp, fn := fun _ => false, pn := [], xe := fun _ _ => False }
def PTs (X : Cx) (ifs : List Expr) (t : TT) : Prop :=
  ∀ (pins : List (Addr × Obj)) (s : Shared) (σ : St) (H : Hp) (Q : Bool → Hp → Prop), Inv X pins σ H s → t σ H Q →
    wpAny (model X.prog X.w) X.A (forIn ifs true fun c r => if r = true then do let ok ← isTrue c X.env (eval c X.env); pure (ForInStep.yield ok) else pure (ForInStep.yield r)) (TP X pins σ Q) X.xe s
theorem pts_nil {X : Cx} : PTs X [] (fun _ H Q => Q true H) := fun _ _ _ H _ I h => wpAny_tests_nil ⟨H, I, h⟩
/-- one turn after another: the list so far -/
@[irreducible] def cPut (W : Nat → Nat → List V → St → Hp → Prop) (acc : Addr) (ys : List V) (i m : Nat) (σ2 : St) (v : V) (H5 : Hp) : Prop :=
  H5 acc = some (.lst ys) ∧ ∀ H6, Chg acc H5 H6 → H6 acc = some (.lst (ys ++ [v])) → ∃ m', m' < m ∧ W (i + 1) m' (ys ++ [v]) σ2 H6
@[irreducible] def cSkip (W : Nat → Nat → List V → St → Hp → Prop) (ys : List V) (i m : Nat) (σ2 : St) (H4 : Hp) : Prop := ∃ m', m' < m ∧ W (i + 1) m' ys σ2 H4
@[irreducible] def compW (J : It) (g : TG) (tt : TT) (te : TE) (σ0 : St) (H1 : Hp) (Q : VK) : Prop :=
  ∀ acc H2, H1 acc = none → Same H1 H2 → H2 acc = some (.lst []) → ∃ W : Nat → Nat → List V → St → Hp → Prop, (∃ m, W 0 m [] σ0 H2) ∧ ∀ i m ys σ H, W i m ys σ H → H acc = some (.lst ys) ∧ ys.length < sizeLine ∧
    ((J.stop i H ∧ Q (.ref acc) H) ∨ (J.go i H ∧ ∀ x H', J.yld i H x H' → g x σ H' fun σ2 H3 => tt σ2 H3 fun b H4 =>
      br b (te σ2 H4 fun v H5 => cPut W acc ys i m σ2 v H5) (cSkip W ys i m σ2 H4)))
section
variable {X : Cx} {pins : List (Addr × Obj)} {σ : St} {H : Hp} {s2 : Shared}
theorem blk_inv {N : List Str} {scope : Scope} {cl : List (Str × Addr)} {C : Addr} {s3 s4 : Shared} {H3 : Hp} {fp : List Addr} {σc : St} (I : Inv X pins σ H3 s3)
    (hcl1 : ∀ x c, cl.lookup x = some c → X.env.cells.lookup x = some c) (hcl2 : ∀ x ∈ scope.names, x.2 = .free → ∃ c, cl.lookup x.1 = some c) (hkind : scope.kind = .function) (hcell : ∀ y ∈ scope.names, y.2 ≠ .cell)
    (hcap : ∀ (i : Nat) (x : Str) (v : V), N[i]? = some x → σc[i]? = some (some v) → ∃ j : Nat, X.N[j]? = some x ∧ σ[j]? = some (some v) ∧ scope.names.lookup x = some .free ∧ (X.env.kindOf x = some .cell ∨ X.env.kindOf x = some .free))
    (hlen : σc.length = N.length) (hC : s3.heap.objs.size = C) (hfp : ∀ b ∈ fp, FpOk X pins H3 b) (hfpl : ∀ b ∈ fp, b < C) (hex : ∀ b o, X.base.get? b = some o → b ∉ fp) (hns : ∃ m, s4.heap.Ns C m) (hk : ∀ b o, s3.heap.get? b = some o → s4.heap.get? b = some o) (h4 : s4.os = s3.os) (h5 : s4.gens = s3.gens) :
    Inv (blk X N scope cl C s3 H3 fp) [] σc H3 s4 := by
  subst hC
  have look : ∀ x, (blk X N scope cl s3.heap.objs.size s3 H3 fp).env.kindOf x = (relabel scope X.env).names.lookup x := fun x => rfl
  have cne : ∀ x c, cl.lookup x = some c → c < s3.heap.objs.size := fun x c h => by
    obtain ⟨v, o, ho, _⟩ := I.cell x c (hcl1 x c h)
    exact Heap.lt_size ho
  refine ⟨⟨I.ok.mod, ?_, I.ok.glob, I.ok.blt, Nat.le_refl _, fun x y c h1 h2 => I.ok.inj x y c (hcl1 _ _ h1) (hcl1 _ _ h2), fun x hx => ?_, fun x c h => ?_, I.ok.hd, I.ok.frames, .inl rfl, fun b hb => ⟨Nat.ne_of_lt (hfpl b hb), fun x c h => ?_⟩, fun b o e => I.bs b o e, Nat.le_trans I.ok.bsz I.sz, fun b o e => hex b o e, fun b hb => ?_, I.stack, I.stkFree⟩,
    h4, by rw [h5]; exact I.bare, Un.kept hk, ?_, fun x c h => ?_, I.hok.fresh (Nat.le_refl _), fun x c h => I.freeC x c (hcl1 _ _ h), fun p hp => (by cases hp), I.hok.kept hk, hlen⟩
  · exact hkind
  · have hx' : (relabel scope X.env).names.lookup x = some .cell ∨ (relabel scope X.env).names.lookup x = some .free := hx
    have hz : ∃ y ∈ scope.names, y.1 = x ∧ y.2 = .free := by
      rcases hx' with q | q
      · exact relabel_kind hcell (.inl rfl) q
      · exact relabel_kind hcell (.inr rfl) q
    obtain ⟨y, hy, rfl, hf⟩ := hz
    exact hcl2 y hy hf
  · exact absurd (show false = true from h) Bool.false_ne_true
  · exact (hfp b hb).2.2.2.2.1 x c (hcl1 x c h)
  · have := (hfp b hb).1
    intro hz
    obtain ⟨f0, f1, f2, _⟩ := hfp b hb
    have hz : b ∈ frs X.stack := hz
    rcases List.mem_cons.mp (I.stkSub b hz) with q | q
    · exact f1 q
    · exact f2 q
  · obtain ⟨m, hm⟩ := hns
    refine ⟨m, hm, fun i x v h1 h2 h3 => ?_⟩
    obtain ⟨j, e1, e2, e3, e4⟩ := hcap i x v h1 h2
    obtain ⟨mX, _, hl⟩ := I.loc
    obtain ⟨u, r, q⟩ := hl j x v e1 e2 (by rcases e4 with e4 | e4; exact .inr (.inl e4); exact .inr (.inr e4))
    refine ⟨u, r, .inr ⟨relabel_free e3, ?_⟩⟩
    obtain ⟨c, hc⟩ := hcl2 (x, .free) (PySem.mem_of_lookup e3) rfl
    refine ⟨c, hc, ?_⟩
    have hc' := hcl1 x c hc
    rcases q with ⟨k, _⟩ | ⟨_, c2, e5, o, ho, hd⟩
    · rcases e4 with e4 | e4 <;> rw [e4] at k <;> cases k
    · rw [hc'] at e5
      cases e5
      exact ⟨o, hk _ _ ho, hd⟩
  · obtain ⟨v, o, ho, hd⟩ := I.cell x c (hcl1 x c h)
    exact ⟨v, o, hk _ _ ho, hd⟩
theorem comp_loop {prog : Program} {w : World} {A : Around} {R : Result → Shared → Prop} {s : Shared} {elt target iter : Expr} {ifs : List Expr} {scope : Scope} {pos : Pos} {it acc : Value} {env : Env} (I : Nat → Shared → Prop)
    (turn : ∀ n s, I n s → wpAny (model prog w) A (pyNext it) (fun r s₁ => match r with
      | none => R (.ok .next) s₁
      | some v => wpAny (model prog w) A (letOwnedTupleGo target it v) (fun _ s₁' => wpAny (model prog w) A (assign target env v) (fun _ s₂ =>
          wpAny (model prog w) A (forIn ifs true fun c r => if r = true then do let ok ← isTrue c env (eval c env); pure (ForInStep.yield ok) else pure (ForInStep.yield r)) (fun ok s₃ =>
            if ok = true then wpAny (model prog w) A (eval elt env) (fun x s₄ =>
              wpAny (model prog w) A (call (.builtin "list.append") [acc, x]) (fun _ s₅ => ∃ m, m < n ∧ I m s₅) (fun _ _ => False) s₄) (fun _ _ => False) s₃
            else ∃ m, m < n ∧ I m s₃) (fun _ _ => False) s₂) (fun _ _ => False) s₁') (fun _ _ => False) s₁) (fun _ _ => False) s)
    (n : Nat) (h : I n s) : codeAny (model prog w) A (.compLoop (.ListComp elt [⟨target, iter, ifs, 0⟩] scope pos) 0 it acc env) R s := by
  refine codeAny_loop rfl I (fun n s hI => ?_) n h
  show wpAny _ A ((compTurn (.ListComp elt [⟨target, iter, ifs, 0⟩] scope pos) 0 it acc env).onRaise (fun x => do noteFrame x env; theTreesLotGoes x)) _ _ s
  refine wpAny_noted ?_
  rw [compTurn_list]
  refine wpAny_bind (wpAny_standAt (wpAny_bind (wpAny_mono (turn n s hI) (fun r s₁ h₁ => ?_) fun _ _ h' => h'.elim)))
  cases r with
  | none => exact wpAny_pure h₁
  | some v =>
    refine wpAny_bind (wpAny_mono h₁ (fun _ s₁' h₁' => ?_) fun _ _ h' => h'.elim)
    refine wpAny_bind (wpAny_mono h₁' (fun _ s₂ h₂ => wpAny_bind (wpAny_mono h₂ (fun ok s₃ h₃ => ?_) fun _ _ h' => h'.elim)) fun _ _ h' => h'.elim)
    cases ok with
    | false => exact wpAny_pure ⟨rfl, h₃⟩
    | true =>
      exact wpAny_bind (wpAny_bind (wpAny_mono h₃ (fun x s₄ h₄ => wpAny_bind (wpAny_mono h₄ (fun _ s₅ h₅ => wpAny_pure (wpAny_pure ⟨rfl, h₅⟩)) fun _ _ h' => h'.elim)) fun _ _ h' => h'.elim))

theorem comp_core {E : Value → Shared → Prop} {elt tg iter : Expr} {ifs : List Expr} {scope : Scope} {pos : Pos} {cl : List (Str × Addr)} {N : List Str} {σc : St} {J : It} {fp : List Addr} {it : Addr} {tn : Nat → Heap → Prop} {g : TG} {tt : TT} {te : TE} {Q : VK}
    {RR : Value → Addr → Result → Shared → Prop}
    (hcl1 : ∀ x c, cl.lookup x = some c → X.env.cells.lookup x = some c) (hcl2 : ∀ x ∈ scope.names, x.2 = .free → ∃ c, cl.lookup x.1 = some c) (hkind : scope.kind = .function) (hcell : ∀ y ∈ scope.names, y.2 ≠ .cell)
    (hcap : ∀ (i : Nat) (x : Str) (v : V), N[i]? = some x → σc[i]? = some (some v) → ∃ j : Nat, X.N[j]? = some x ∧ σ[j]? = some (some v) ∧ scope.names.lookup x = some .free ∧ (X.env.kindOf x = some .cell ∨ X.env.kindOf x = some .free))
    (hlen : σc.length = N.length) (hc : X.calm = true) (I : Inv X pins σ H s2) (T : Turn X.prog X.w X.K tg J fp it tn) (st : tn 0 s2.heap) (fpok : ∀ b ∈ fp, FpOk X pins H b)
    (hg : ∀ C s3 H3 fp, PG (blk X N scope cl C s3 H3 fp) tg g) (ht : ∀ C s3 H3 fp, PTs (blk X N scope cl C s3 H3 fp) ifs tt) (he : ∀ C s3 H3 fp, PE (blk X N scope cl C s3 H3 fp) elt te)
    (h : compW J g tt te σc H Q)
    (hRR : ∀ (acc C : Addr) (H' : Hp) (s' : Shared), Inv X pins σ H' s' → FpOk X pins H' C → (∃ m, s'.heap.Ns C m) → Q (.ref acc) H' → RR (.ref acc) C (.ok .next) s') :
    wpAny (model X.prog X.w) X.A (newList []) (fun acc s₃ => wpAny (model X.prog X.w) X.A (newFunctionEnv scope X.env.globals cl [] X.env.qual none .none (some X.env)) (fun cenv s₄ =>
      codeAny (model X.prog X.w) X.A (.compStart (.ListComp elt [⟨tg, iter, ifs, 0⟩] scope pos) 0 (.ref it) acc { cenv with scope := relabel scope X.env }) (RR acc cenv.locals) s₄) E s₃) E s2 := by
  refine wpAny_newObj_type (wpAny_newFunctionEnv hcell (by intro y hy; simp at hy) (fun h₁ hns₁ hsb₁ => ?_) hkind)
  dsimp only at hns₁ hsb₁ ⊢
  have hf : H s2.heap.objs.size = none := I.fresh
  have I3 : Inv X pins σ (upd H s2.heap.objs.size (.lst [])) { s2 with heap := s2.heap.push { cls := .type "list", data := .seq ([] : List Value).toArray } } := I.lnew (t' := s2.toks) (its := []) .nil (Nat.zero_le _)
  generalize hs3 : ({ s2 with heap := s2.heap.push { cls := .type "list", data := .seq ([] : List Value).toArray } } : Shared) = s3 at I3
  have hH : s2.heap.push { cls := .type "list", dict := none, data := .seq ([] : List Value).toArray } = s3.heap := by rw [← hs3]
  rw [hH] at hns₁ hsb₁ ⊢
  have hsz : s3.heap.objs.size = s2.heap.objs.size + 1 := by rw [← hH, Heap.size_push]
  have old23 : ∀ b o, s2.heap.get? b = some o → s3.heap.get? b = some o := fun b o e => by rw [← hH]; exact Heap.get?_push_of_some _ e
  have fplt : ∀ b ∈ fp, b < s2.heap.objs.size := fun b hb => by
    obtain ⟨o, e, _⟩ := T.obj 0 _ st b hb
    exact Heap.lt_size e
  have fp3 : ∀ b ∈ fp, FpOk X pins (upd H s2.heap.objs.size (.lst [])) b := fun b hb => by
    obtain ⟨f0, f1⟩ := fpok b hb
    refine ⟨?_, f1⟩
    rw [upd_ne (Nat.ne_of_lt (fplt b hb))]
    exact f0
  have old34 : ∀ b o, s3.heap.get? b = some o → h₁.get? b = some o := fun b o e => hsb₁.extBut b o (Nat.ne_of_lt (Heap.lt_size e)) (Heap.get?_push_of_some _ e)
  have nob : ∀ b o, X.base.get? b = some o → b ∉ fp := fun b o e hb => by
    obtain ⟨_, _, _, f3, _, _⟩ := fpok b hb
    rcases f3 with f3 | f3
    · exact I.ok.noex b o e f3
    · exact absurd (Nat.lt_of_lt_of_le (Heap.lt_size e) I.ok.bsz) (Nat.not_lt.mpr f3)
  have hs4e : ({ s2 with heap := h₁, toks := s2.toks + ([] : List (Str × Value)).length } : Shared).os = s3.os := by rw [← hs3]
  have hs4g : ({ s2 with heap := h₁, toks := s2.toks + ([] : List (Str × Value)).length } : Shared).gens = s3.gens := by rw [← hs3]
  have I4 : Inv (blk X N scope cl s3.heap.objs.size s3 (upd H s2.heap.objs.size (.lst [])) fp) [] σc (upd H s2.heap.objs.size (.lst [])) { s2 with heap := h₁, toks := s2.toks + ([] : List (Str × Value)).length } :=
    blk_inv (s4 := { s2 with heap := h₁, toks := s2.toks + ([] : List (Str × Value)).length }) I3 hcl1 hcl2 hkind hcell hcap hlen rfl fp3 (fun b hb => Nat.lt_of_lt_of_le (fplt b hb) (by rw [hsz]; exact Nat.le_succ _)) nob ⟨_, hns₁⟩ old34 hs4e hs4g
  have st4 : tn 0 h₁ := T.keep _ _ _ st fun b hb o e => old34 b o (old23 b o e)
  unfold compW at h
  obtain ⟨W, ⟨m0, w0⟩, turn⟩ := h s2.heap.objs.size _ hf (Same.upd hf) upd_same
  have loop : codeAny (model X.prog X.w) X.A (.compLoop (.ListComp elt [⟨tg, iter, ifs, 0⟩] scope pos) 0 (.ref it) (.ref s2.heap.objs.size) (blk X N scope cl s3.heap.objs.size s3 (upd H s2.heap.objs.size (.lst [])) fp).env)
      (RR (.ref s2.heap.objs.size) s3.heap.objs.size) { s2 with heap := h₁, toks := s2.toks + ([] : List (Str × Value)).length } := by
    refine comp_loop (fun n s' => ∃ i ys σ' H', Inv (blk X N scope cl s3.heap.objs.size s3 (upd H s2.heap.objs.size (.lst [])) fp) [] σ' H' s' ∧ tn i s'.heap ∧ (∀ b ∈ fp, H' b = none) ∧ W i n ys σ' H') ?_ m0 ⟨0, [], σc, _, I4, st4, fun b hb => (fp3 b hb).1, w0⟩
    rintro n s5 ⟨i, ys, σ5, H5, I5, st5, fr5, w5⟩
    obtain ⟨hacc, hl5, hcase⟩ := turn i n ys σ5 H5 w5
    have stat : ∀ {H' : Hp}, (∀ b ∈ fp, H' b = none) → ∀ b ∈ fp, FpOk (blk X N scope cl s3.heap.objs.size s3 (upd H s2.heap.objs.size (.lst [])) fp) [] H' b := fun hn b hb => by
      obtain ⟨_, f1, f2, f3, f4, _⟩ := fpok b hb
      refine ⟨hn b hb, Nat.ne_of_lt (Nat.lt_of_lt_of_le (fplt b hb) (by rw [hsz]; exact Nat.le_succ _)), fun hz => ?_, .inl hb, fun x c hx => f4 x c (hcl1 x c hx), fun p hp => by cases hp⟩
      rcases List.mem_cons.mp (I.stkSub b hz) with q | q
      · exact f1 q
      · exact f2 q
    rcases hcase with ⟨stop, hq⟩ | ⟨go, step⟩
    · refine thn (T.done (blk X N scope cl s3.heap.objs.size s3 (upd H s2.heap.objs.size (.lst [])) fp) rfl rfl rfl hc i [] s5 σ5 H5 (fun _ _ => False) I5 (stat fr5) st5 stop) fun r s6 ⟨hr, I6⟩ => ?_
      subst hr
      have u1 : Un (frs X.stack) fp H (upd H s2.heap.objs.size (.lst [])) s2.heap s3.heap := Un.laid old23 (Nat.le_refl _) hf
      have u2 : Un (frs X.stack) fp (upd H s2.heap.objs.size (.lst [])) H5 s3.heap s6.heap := I6.base
      have hC : H5 s3.heap.objs.size = none := I6.free
      obtain ⟨m6, hm6, _⟩ := I6.loc
      have hos : s6.os = s2.os := by rw [I6.os]; show s3.os = s2.os; rw [← hs3]
      have hok6 := I6.hok
      have bare6 := I6.bare
      obtain ⟨hh, gg, dd, tt', os'⟩ := s6
      obtain rfl : os' = s2.os := hos
      exact hRR _ _ H5 _ (I.call (h' := hh) (g' := gg) (d' := dd) (t' := tt') (ch := fp) (u1.trans u2) hok6 bare6 fun b hb => ⟨(fpok b hb).2.2.2.1, (fpok b hb).2.1, (fpok b hb).2.2.2.2.1, (fpok b hb).2.2.2.2.2⟩)
        (I.fpOk (by rw [hsz]; exact Nat.le_succ _) hC) ⟨m6, hm6⟩ hq
    · refine thn (T.item (blk X N scope cl s3.heap.objs.size s3 (upd H s2.heap.objs.size (.lst [])) fp) rfl rfl rfl hc i [] s5 σ5 H5 (fun _ _ => False) I5 (stat fr5) st5 go) fun r s6 ⟨u, hr, h6⟩ => ?_
      subst hr
      refine thn h6 fun _ s7 ⟨x, H7, I7, r7, y7, st7, fr7⟩ => ?_
      have I7' := I7.pinned (stat fr7) (T.obj _ _ st7)
      refine thn (hg _ _ _ _ _ s7 σ5 H7 x u _ I7' r7 (step x H7 y7)) fun _ s8 ⟨σ8, H8, I8, q8⟩ => ?_
      refine thn (ht _ _ _ _ _ s8 σ8 H8 _ I8 q8) fun ok s9 ⟨H9, I9, q9⟩ => ?_
      have again : ∀ {s10 : Shared} {σ10 : St} {H10 : Hp} {zs : List V}, Inv (blk X N scope cl s3.heap.objs.size s3 (upd H s2.heap.objs.size (.lst [])) fp) ([] ++ pinsAt fp s7.heap) σ10 H10 s10 → (∃ m', m' < n ∧ W (i + 1) m' zs σ10 H10) →
          ∃ m, m < n ∧ ∃ i ys σ' H', Inv (blk X N scope cl s3.heap.objs.size s3 (upd H s2.heap.objs.size (.lst [])) fp) [] σ' H' s10 ∧ tn i s10.heap ∧ (∀ b ∈ fp, H' b = none) ∧ W i m ys σ' H' := fun {s10 σ10 H10 zs} I10 ⟨m', hm, w10⟩ => by
        refine ⟨m', hm, i + 1, zs, σ10, H10, I10.unpinned, T.keep _ _ _ st7 fun b hb o e => (I10.pin (b, o) (List.mem_append_right _ (List.mem_append_right _ (mem_pinsAt hb e)))).1, fun b hb => ?_, w10⟩
        obtain ⟨o, e, d⟩ := T.obj _ _ st7 b hb
        exact (I10.pin (b, o) (List.mem_append_right _ (List.mem_append_right _ (mem_pinsAt hb e)))).2.1
      dsimp only at q9
      rw [br_iff] at q9
      cases ok with
      | false =>
        have q9 : ∃ m', m' < n ∧ W (i + 1) m' ys σ8 H9 := by rw [if_neg Bool.false_ne_true] at q9; unfold cSkip at q9; exact q9
        exact again I9 q9
      | true =>
        have q9 := (if_pos rfl ▸ q9 : te σ8 H9 _)
        refine thn (he _ _ _ _ _ s9 σ8 H9 _ I9 q9) fun v s10 ⟨y, H10, I10, r10, q10⟩ => ?_
        unfold cPut at q10
        obtain ⟨e10, q10⟩ := q10
        refine thn (mt_append _ s10 σ8 H10 (.ref s2.heap.objs.size) [y] (.ref s2.heap.objs.size) [v] (fun _ H11 => ∃ m', m' < n ∧ W (i + 1) m' (ys ++ [y]) σ8 H11) I10 rfl (.cons r10 .nil) ⟨_, ys, y, rfl, rfl, e10, hl5, q10 _ Chg.upd upd_same⟩) fun _ s11 ⟨z, H11, I11, _, q11⟩ => ?_
        exact again I11 q11
  exact codeAny_compStart_list loop (T.self _ 0 _ _ _ st4 loop)
/-- what the block sees of the frame: by slots -/
def capS (ks : List (Option Nat)) (σ : St) : St := ks.map fun k => match k with
  | none => none
  | some j => (σ[j]?).join
inductive CapOk (X : Cx) (scope : Scope) : List Str → List (Option Nat) → Prop where
  | nil : CapOk X scope [] []
  | skip {x : Str} {N : List Str} {ks : List (Option Nat)} (t : CapOk X scope N ks) : CapOk X scope (x :: N) (none :: ks)
  | take {x : Str} {N : List Str} {ks : List (Option Nat)} {j : Nat} (h1 : X.N[j]? = some x) (h2 : scope.names.lookup x = some .free) (h3 : X.env.kindOf x = some .cell ∨ X.env.kindOf x = some .free) (t : CapOk X scope N ks) : CapOk X scope (x :: N) (some j :: ks)
theorem CapOk.cap {scope : Scope} {N : List Str} {ks : List (Option Nat)} (h : CapOk X scope N ks) (σ : St) : ∀ (i : Nat) (x : Str) (v : V), N[i]? = some x → (capS ks σ)[i]? = some (some v) → ∃ j : Nat, X.N[j]? = some x ∧ σ[j]? = some (some v) ∧ scope.names.lookup x = some .free ∧ (X.env.kindOf x = some .cell ∨ X.env.kindOf x = some .free) := by
  induction h with
  | nil => intro i x v h; simp at h
  | skip t ih =>
    intro i x v h1 h2
    cases i with
    | zero => simp [capS] at h2
    | succ i => exact ih i x v (by simpa using h1) (by simpa [capS] using h2)
  | take a b c t ih =>
    intro i x v h1 h2
    cases i with
    | zero =>
      simp only [List.getElem?_cons_zero, Option.some.injEq] at h1
      subst h1
      refine ⟨_, a, ?_, b, c⟩
      simpa [capS, Option.join_eq_some_iff] using h2
    | succ i => exact ih i x v (by simpa using h1) (by simpa [capS] using h2)
theorem CapOk.len {scope : Scope} {N : List Str} {ks : List (Option Nat)} (h : CapOk X scope N ks) (σ : St) : (capS ks σ).length = N.length := by
  have : ks.length = N.length := by
    induction h with
    | nil => rfl
    | skip t ih => simp [ih]
    | take a b c t ih => simp [ih]
  simp [capS, this]
def qComp (ks : List (Option Nat)) (wi : TI) (g : TG) (tt : TT) (te : TE) : TE := fun σ H Q => wi σ H fun J H1 => compW J g tt te (capS ks σ) H1 Q
def freeB (scope : Scope) (f : Str → Option NameKind) : Bool := scope.names.all fun x => x.2 != .free || (f x.1 == some .cell || f x.1 == some .free)
def scopeB (scope : Scope) : Bool := scope.names.all (fun x => x.2 != .cell) && scope.names.all fun x => x.2 != .local || scope.names.lookup x.1 == some .local
theorem freeB_ok {scope : Scope} {f : Str → Option NameKind} (h : freeB scope f = true) : ∀ x ∈ scope.names, x.2 = .free → f x.1 = some .cell ∨ f x.1 = some .free := fun x hx hf => by
  have := List.all_eq_true.mp h x hx
  simpa [hf] using this
theorem scopeB_ok {scope : Scope} (h : scopeB scope = true) : (∀ y ∈ scope.names, y.2 ≠ .cell) ∧ ∀ x ∈ scope.names, x.2 = .local → scope.names.lookup x.1 = some .local := by
  unfold scopeB at h
  rw [Bool.and_eq_true] at h
  refine ⟨fun y hy => ?_, fun x hx hl => ?_⟩
  · have := List.all_eq_true.mp h.1 y hy
    simpa using this
  · have := List.all_eq_true.mp h.2 x hx
    simpa [hl] using this
theorem peComp {elt tg iter : Expr} {ifs : List Expr} {scope : Scope} {pos : Pos} {N : List Str} {ks : List (Option Nat)} {wi : TI} {g : TG} {tt : TT} {te : TE} (hi : PI X tg iter wi)
    (hg : ∀ cl C s3 H3 fp, PG (blk X N scope cl C s3 H3 fp) tg g) (ht : ∀ cl C s3 H3 fp, PTs (blk X N scope cl C s3 H3 fp) ifs tt) (he : ∀ cl C s3 H3 fp, PE (blk X N scope cl C s3 H3 fp) elt te) (hcap : CapOk X scope N ks)
    (hc : X.calm = true := by rfl) (hkind : scope.kind = .function := by rfl) (hb : freeB scope X.env.kindOf = true := by rfl) (hn : scopeB scope = true := by rfl) (hs : ∀ x, foldedSetIterable iter X.env x = pure x := by intro _; rfl) :
    PE X (.ListComp elt [⟨tg, iter, ifs, 0⟩] scope pos) (qComp ks wi g tt te) := by
  intro pins s σ H Q I h
  obtain ⟨hcell, hnames⟩ := scopeB_ok hn
  obtain ⟨cl, hcl, hcl1, hcl2⟩ := closure_ok (scope := scope) (env := X.env) fun x hx hf => I.ok.has x.1 (freeB_ok hb x hx hf)
  rw [eval_ListComp]
  refine wpAny_comprehension_free (use := none) rfl hs hcl hkind hnames ?_
  show wpAny _ _ (eval iter X.env) _ _ s
  refine thn (hi pins s σ H _ I h) fun v s1 h1 => thn h1 fun itv s2 h2 => ?_
  obtain ⟨it, fp, tn, J, H2, e, I2, T, st2, f2, q2⟩ := h2
  subst e
  refine comp_core (RR := fun acc C => compPost (model X.prog X.w) X.A X.xe none (EP X pins σ Q) acc C) hcl1 hcl2 hkind hcell (hcap.cap σ) (hcap.len σ) hc I2 T st2 f2 (hg cl) (ht cl) (he cl) q2 ?_
  rintro acc C H' s' I' hC ⟨m, hm⟩ hq
  refine ⟨m, hm, fun h' hsb => ⟨.ref acc, H', ?_, rfl, hq⟩⟩
  exact I'.turned (t' := s'.toks) (fun b o hb e => hsb.extBut b o hb e) hC.1 hC.2.1 hC.2.2.2.1 hC.2.2.2.2.1 hC.2.2.2.2.2
/-- name = [.. for ..], the name a plain local -/
theorem psC {i : Nat} {y : Str} {py spos : Pos} {elt tg iter : Expr} {ifs : List Expr} {scope : Scope} {pos : Pos} {N : List Str} {ks : List (Option Nat)} {wi : TI} {g : TG} {tt : TT} {te : TE} (hN : X.N.Nodup) (hi : PI X tg iter wi)
    (hg : ∀ cl C s3 H3 fp, PG (blk X N scope cl C s3 H3 fp) tg g) (ht : ∀ cl C s3 H3 fp, PTs (blk X N scope cl C s3 H3 fp) ifs tt) (he : ∀ cl C s3 H3 fp, PE (blk X N scope cl C s3 H3 fp) elt te) (hcap : CapOk X scope N ks)
    (hy : X.N[i]? = some y := by rfl) (hl : X.env.scope.names.lookup y = some .local := by rfl) (hsw : swapsWith (.ListComp elt [⟨tg, iter, ifs, 0⟩] scope pos) (some (.Name y py)) spos.line X.env = pure true := by rfl)
    (hc : X.calm = true := by rfl) (hkind : scope.kind = .function := by rfl) (hb : freeB scope X.env.kindOf = true := by rfl) (hn : scopeB scope = true := by rfl) (hs : ∀ x, foldedSetIterable iter X.env x = pure x := by intro _; rfl) :
    PS X (.Assign [.Name y py] (.ListComp elt [⟨tg, iter, ifs, 0⟩] scope pos) spos) (tAsg (qComp ks wi g tt te) (gName i)) := by
  intro pins s σ H D I h
  obtain ⟨hcell, hnames⟩ := scopeB_ok hn
  obtain ⟨cl, hcl, hcl1, hcl2⟩ := closure_ok (scope := scope) (env := X.env) fun x hx hf => I.ok.has x.1 (freeB_ok hb x hx hf)
  rw [exec_Assign_Name_used _ _ _ _ hsw]
  refine wpAny_bind (wpAny_standAt (wpAny_bind ?_))
  show wpAny _ X.A (do let _ ← comprehension (.ListComp elt [⟨tg, iter, ifs, 0⟩] scope pos) scope X.env _ (newList []) false (eval iter X.env) (some (assign (.Name y py) X.env))) _ _ s
  refine wpAny_bind (wpAny_mono (wpAny_comprehension_free (use := some (assign (.Name y py) X.env)) (Q := fun _ s' => SP X pins D .next s') rfl hs hcl hkind hnames ?_) (fun _ s' hq => wpAny_pure (wpAny_pure hq)) fun _ _ e => e)
  refine thn (hi pins s σ H _ I h) fun v s1 h1 => thn h1 fun itv s2 h2 => ?_
  obtain ⟨it, fp, tn, J, H2, e, I2, T, st2, f2, q2⟩ := h2
  subst e
  refine comp_core (RR := fun acc C => compPost (model X.prog X.w) X.A X.xe (some (assign (.Name y py) X.env)) (fun _ s' => SP X pins D .next s') acc C) hcl1 hcl2 hkind hcell (hcap.cap σ) (hcap.len σ) hc I2 T st2 f2 (hg cl) (ht cl) (he cl) q2 ?_
  rintro acc C H' s' I' hC ⟨m, hm⟩ hq
  show wpAny _ _ (assign (.Name y py) X.env (.ref acc)) _ _ _
  refine wpAny_assign_Name (store_ok2 I' hN hy (.inl hl) (v := .ref acc) rfl (fun s'' I'' hsb => ?_) (.inr hl))
  obtain ⟨a, hsb, ha⟩ := hsb
  have hCa : C ≠ a := by
    rcases ha with ha | ha
    · rw [ha]; exact hC.2.1
    · exact (hC.2.2.2.2.1 y a ha).symm
  refine ⟨m, hm.sameBut hsb hCa, fun h' hsb' => ⟨σ.set i (some (.ref acc)), H', ?_, hq⟩⟩
  exact I''.turned (t' := s''.toks) (fun b o hb e => hsb'.extBut b o hb e) hC.1 hC.2.1 hC.2.2.2.1 hC.2.2.2.2.1 hC.2.2.2.2.2
end
/-! ### how a comprehension is read -/
section
variable {K : PySem.W.Frag} {g : TG} {tt : TT} {te : TE} {σ0 : St} {H1 : Hp} {Q : VK}
end
end L2

set_option Elab.async false
set_option linter.all false
set_option maxRecDepth 100000
set_option maxHeartbeats 2000000
namespace L2
open PySem PySem.Spec PyProof.Rows
section
variable {X : Cx}
/-! ### sum, all, list, tuple of what is read -/
@[irreducible] def rSumA (K : PySem.W.Frag) (p : Addr) (H : Hp) (Q : VK) : Prop := ∃ ns : List Int, SqL K H p (ns.map V.int) ∧ Q (.int ns.sum) H
def rSumM (K : PySem.W.Frag) : List V → Hp → VK → Prop := fun xs H Q => match xs with
  | [.ref p] => rSumA K p H Q
  | _ => False
theorem cSum (hc : X.calm = true) : CallR X (.builtin "sum") (rSumM X.K) := fun pins s σ H xs us Q I r h => by
  unfold rSumM at h
  split at h
  · unfold rSumA at h
    obtain ⟨ns, h1, h2⟩ := h
    obtain ⟨u, rfl, rx⟩ := vals1 r
    cases rx
    obtain ⟨its, r', pl, hz⟩ := I.list h1
    have hi := intsAre_of r'
    obtain ⟨ys, hx⟩ := hi.allInts.items
    have hl' : s.heap.IsList _ (intItems ys) := hx ▸ pl.isList
    refine sum_intListG (I.ok.hd hc) hl' fun h' tk t' hk => ?_
    have e1 : ns = ys.toList.map (·.1) := by
      rw [← nums_intItems, ← hx]
      exact (show numsOf its.toArray.toList = ns from hi.numsOf).symm
    have e2 : preSum (numAt ys) ys.size = ns.sum := by
      rw [preSum_eq, List.take_of_length_le (by simp), e1]
    rw [e2]
    exact ⟨.int ns.sum, H, I.kept hk, ⟨_, rfl⟩, h2⟩
  · exact h.elim
theorem sum_rd {K : PySem.W.Frag} {p : Addr} {H : Hp} {Q : VK} {ns : List Int} (h : H p = some (.lst (ns.map V.int))) (q : Q (.int ns.sum) H) : rSumA K p H Q := by unfold rSumA; exact ⟨ns, SqL.of h, q⟩
theorem boolsAre_of : ∀ {bs : List Bool} {us : List Value}, Vals (bs.map V.bl) us → LSm.BoolsAre us bs
  | [], us, r => by rw [List.map_nil] at r; cases r; exact .nil
  | b :: bs, us, r => by
    rw [List.map_cons] at r
    cases r with
    | cons r1 r2 =>
      cases r1
      exact .cons b (boolsAre_of r2)
@[irreducible] def rAllA (K : PySem.W.Frag) (p : Addr) (H : Hp) (Q : VK) : Prop := ∃ bs : List Bool, SqL K H p (bs.map V.bl) ∧ Q (.bl (bs.all id)) H
def rAllM (K : PySem.W.Frag) : List V → Hp → VK → Prop := fun xs H Q => match xs with
  | [.ref p] => rAllA K p H Q
  | _ => False
theorem cAll (hc : X.calm = true) : CallR X (.builtin "all") (rAllM X.K) := fun pins s σ H xs us Q I r h => by
  unfold rAllM at h
  split at h
  · rename_i p
    unfold rAllA at h
    obtain ⟨bs, h1, h2⟩ := h
    obtain ⟨u, rfl, rx⟩ := vals1 r
    cases rx
    obtain ⟨its, r', pl, hz⟩ := I.list h1
    have hb := boolsAre_of r'
    have hlt : p < s.heap.objs.size := by obtain ⟨_, e, _⟩ := pl.isList; exact Heap.lt_size e
    refine call_all_walk (wpAny_pyIter_list pl.isList ?_)
    refine ⟨s.heap.objs.size, [s.heap.objs.size, _], [s.heap.objs.size], its.toArray.size, _, _, fun i => (bs[i]?).getD true, rfl, Walks.list (A := X.A.in1) (I.ok.hd hc) _ _ (Nat.ne_of_lt hlt) its.toArray,
      ⟨⟨_, Heap.get?_push_size _ rfl, rfl, rfl⟩, pl.isList.push _⟩, fun i v s' Q' E' hP hQ => ?_, fun h' tk hk => ?_⟩
    · obtain ⟨b, e, rfl⟩ := hb.get i v (by simpa using hP)
      simp only [e, Option.getD_some] at hQ
      exact wpAny_truthy_bool hQ
    · have e : ((List.range its.toArray.size).all fun i => (bs[i]?).getD true) = bs.all id := by
        rw [List.size_toArray, hb.length]; exact LSm.range_all bs
      rw [e]
      exact ⟨.bl _, H, I.kept (LSm.kept_iter hk), rfl, h2⟩
  · exact h.elim
theorem all_rd {K : PySem.W.Frag} {p : Addr} {H : Hp} {Q : VK} {bs : List Bool} (h : H p = some (.lst (bs.map V.bl))) (q : Q (.bl (bs.all id)) H) : rAllA K p H Q := by unfold rAllA; exact ⟨bs, SqL.of h, q⟩
@[irreducible] def rListA (K : PySem.W.Frag) (p : Addr) (H : Hp) (Q : VK) : Prop := ∃ ys, (SqL K H p ys ∨ SqT K H p ys) ∧ ∀ l H', H l = none → Same H H' → H' l = some (.lst ys) → Q (.ref l) H'
def rListM (K : PySem.W.Frag) : List V → Hp → VK → Prop := fun xs H Q => match xs with
  | [.ref p] => rListA K p H Q
  | _ => False
theorem cList : CallR X (.type "list") (rListM X.K) := fun pins s σ H xs us Q I r h => by
  unfold rListM at h
  split at h
  · unfold rListA at h
    obtain ⟨ys, h1, h2⟩ := h
    exact call_list_of pins s σ H _ us Q I r ⟨_, ys, rfl, h1, fun l hl => h2 l _ hl (Same.upd hl) upd_same⟩
  · exact h.elim
theorem listL_rd {K : PySem.W.Frag} {p : Addr} {H : Hp} {Q : VK} {ys : List V} (h : SqL K H p ys) (q : ∀ l H', H l = none → Same H H' → H' l = some (.lst ys) → Q (.ref l) H') : rListA K p H Q := by unfold rListA; exact ⟨ys, .inl h, q⟩
/-! ### methods of lists -/
@[irreducible] def rLstIs (K : PySem.W.Frag) (p : Addr) (H : Hp) (R : Prop) : Prop := (∃ xs, SqL K H p xs) ∧ R
def qBM (K : PySem.W.Frag) (r : Addr → List V → Hp → VK → Prop) (to : TE) (t : TA) : TE := fun σ H Q => to σ H fun x H1 => match x with
  | .ref p => rLstIs K p H1 (t σ H1 fun xs H2 => r p xs H2 Q)
  | _ => False
theorem lst_is {K : PySem.W.Frag} {p : Addr} {H : Hp} {R : Prop} {xs : List V} (h : H p = some (.lst xs)) (q : R) : rLstIs K p H R := by unfold rLstIs; exact ⟨⟨xs, SqL.of h⟩, q⟩
def MtA (X : Cx) (id : String) (r : Addr → List V → Hp → VK → Prop) : Prop :=
  ∀ (pins : List (Addr × Obj)) (s : Shared) (σ : St) (H : Hp) (p : Addr) (xs : List V) (us : List Value) (Q : VK), Inv X pins σ H s → Vals xs us → r p xs H Q →
    wpAny (model X.prog X.w) X.A (call (.builtin id) (.ref p :: us)) (EP X pins σ Q) X.xe s
theorem peBM {o e : Expr} {es : List Expr} {to : TE} {t : TA} {name : Str} {apos cpos : Pos} {id : String} {r : Addr → List V → Hp → VK → Prop} (slot : Slot "list" name id) (hty : typeOf (.builtin id) = pure (.type "method_descriptor")) (hm : MtA X id r) (ho : PE X o to) (ha : PA X (e :: es) t)
    (hbase : attributeBase o name X.env (eval o X.env) = eval o X.env := by rfl)
    (hfew : ((backTo cpos (starEach (e :: es) X.env)).all (fun x => !x.1) && (backToKw cpos (keywordEach [] X.env)).all (fun x => x.1.isSome)
      && decide ((e :: es).length + ([] : List Keyword).length + (if ([] : List Keyword).isEmpty then 0 else 1) < 30)) = true := by rfl)
    (hline : (apos.endLine == cpos.line) = true := by rfl) (hs : starEach (e :: es) X.env = (false, eval e X.env) :: starEach es X.env := by rfl) (hplain : (backTo cpos (starEach es X.env)).any (·.1) = false := by rfl) :
    PE X (.Call (.Attribute o name apos) (e :: es) [] cpos) (qBM X.K r to t) := by
  intro pins s σ H Q I h
  refine wpAny_Call_method_late hbase hfew hline rfl (thn (ho pins s σ H _ I h) fun v s1 ⟨x, H1, I1, r1, q1⟩ => ?_)
  dsimp only at q1
  split at q1
  · rename_i p
    unfold rLstIs at q1
    obtain ⟨hq, q1⟩ := q1
    obtain ⟨h1, h2⟩ := tyV_is (T := "list") I1 r1 (.inl ⟨rfl, hq⟩)
    refine ⟨"list", id, PySem.F.plainAttrs_list, slot, hty, h1, h2, ?_⟩
    have hA := ha cpos pins s1 σ H1 _ I1 q1
    rw [hs] at hA ⊢
    refine Calls.callWith_builtin (by show (false || (backTo cpos (starEach es X.env)).any (·.1)) = false; rw [hplain] <;> rfl) (Calls.evalArgs_plain ?_)
    cases r1
    exact thn hA fun us s2 ⟨vs, H2, I2, r2, q2⟩ => hm pins s2 σ H2 p vs us Q I2 r2 q2
  · exact q1.elim
@[irreducible] def rAppA (p : Addr) (v : V) (H : Hp) (Q : VK) : Prop := ∃ xs, H p = some (.lst xs) ∧ xs.length < sizeLine ∧ ∀ H', Chg p H H' → H' p = some (.lst (xs ++ [v])) → Q .non H'
def rAppM : Addr → List V → Hp → VK → Prop := fun p vs H Q => match vs with
  | [v] => rAppA p v H Q
  | _ => False
theorem mAppend : MtA X "list.append" rAppM := fun pins s σ H p xs us Q I r h => by
  unfold rAppM at h
  split at h
  · unfold rAppA at h
    obtain ⟨ys, h1, h2, h3⟩ := h
    exact mt_append pins s σ H (.ref p) _ (.ref p) us Q I rfl r ⟨p, ys, _, rfl, rfl, h1, h2, h3 _ Chg.upd upd_same⟩
  · exact h.elim
theorem app_rd {p : Addr} {v : V} {H : Hp} {Q : VK} {xs : List V} (h : H p = some (.lst xs)) (hz : xs.length < sizeLine) (q : ∀ H', Chg p H H' → H' p = some (.lst (xs ++ [v])) → Q .non H') : rAppA p v H Q := by unfold rAppA; exact ⟨xs, h, hz, q⟩
theorem peM_append {o e : Expr} {to : TE} {t : TA} {apos cpos : Pos} (ho : PE X o to) (ha : PA X [e] t) (hbase : attributeBase o "append" X.env (eval o X.env) = eval o X.env := by rfl)
    (hfew : ((backTo cpos (starEach [e] X.env)).all (fun x => !x.1) && (backToKw cpos (keywordEach [] X.env)).all (fun x => x.1.isSome)
      && decide ([e].length + ([] : List Keyword).length + (if ([] : List Keyword).isEmpty then 0 else 1) < 30)) = true := by rfl)
    (hline : (apos.endLine == cpos.line) = true := by rfl) (hs : starEach [e] X.env = (false, eval e X.env) :: starEach [] X.env := by rfl) (hplain : (backTo cpos (starEach [] X.env)).any (·.1) = false := by rfl) : PE X (.Call (.Attribute o "append" apos) [e] [] cpos) (qBM X.K rAppM to t) :=
  peBM PySem.F.slot_list_append PySem.F.type_list_append mAppend ho ha hbase hfew hline hs hplain
/-! ### name op= e -/
/-! ### is None -/
/-! ### a, b = a list -/
section
variable {prog : Program} {w : World} {A : Around} {E : Value → Shared → Prop} {s : Shared}
theorem draw_list {it t : Addr} {items : Array Value} (hne : t ≠ it) : ∀ (n i : Nat) (s : Shared) (Q : List Value → Shared → Prop), s.heap.IsListIter it t i → s.heap.IsList t items → i + n ≤ items.size →
    (∀ h', h'.IsListIter it t (i + n) → Heap.SameBut it s.heap h' → Q ((items.toList.drop i).take n) { s with heap := h' }) → wpAny (model prog w) A (draw (.ref it) n) Q E s
  | 0, i, s, Q, hit, _, _, hQ => by
    show wpAny _ _ (pure []) Q E s
    exact wpAny_pure (by simpa using hQ s.heap hit (Heap.SameBut.refl ..))
  | n + 1, i, s, Q, hit, ht, hle, hQ => by
    have hlt : i < items.size := by omega
    show wpAny _ _ (pyNext (.ref it) >>= _) Q E s
    refine wpAny_bind (wpAny_pyNext_list_item hit ht (x := items[i]) (by simp [hlt]) fun h₁ hit₁ hs₁ => ?_)
    refine wpAny_bind (wpAny_holding (draw_list hne n (i + 1) _ _ hit₁ (ht.extBut hs₁.extBut hne) (by omega) fun h₂ hit₂ hs₂ => wpAny_pure ?_))
    have hd : items.toList.drop i = items[i] :: items.toList.drop (i + 1) := by simp [List.drop_eq_getElem_cons, hlt]
    have := hQ h₂ (by rw [show i + (n + 1) = i + 1 + n by omega]; exact hit₂) (hs₁.trans hs₂)
    rw [hd, List.take_succ_cons] at this
    exact this
theorem assign_Tuple_list {env : Env} {elts : List Expr} {x1} {pos : Pos} {t : Addr} {items : Array Value} {Q : Unit → Shared → Prop} (hh : A.handled = none) (ht : s.heap.IsList t items)
    (hn : (assignEach elts env).length = items.size) (hstar : (assignEach elts env).findIdx? (·.1) = none)
    (h : ∀ h', Heap.ExtBut s.heap.objs.size s.heap h' → wpAny (model prog w) A (assignInOrder ((assignEach elts env).map (·.2)) items.toList) Q E { s with heap := h' }) :
    wpAny (model prog w) A (assign (.Tuple elts x1 pos) env (.ref t)) Q E s := by
  rw [assign_Tuple]
  refine wpAny_bind (wpAny_standAt ?_)
  unfold unpack
  rw [hn, hstar]
  refine wpAny_bind (wpAny_holding ?_)
  have hlt : t ≠ s.heap.objs.size := by obtain ⟨o, ho, _⟩ := ht; exact Nat.ne_of_lt (Heap.lt_size ho)
  unfold unpackItems
  refine wpAny_bind ?_
  unfold notIterableAtAll
  refine wpAny_bind (wpAny_specialOf ht.typeIs F.slot_list_iter.lookup ?_)
  refine wpAny_pure ?_
  simp only [Bool.false_eq_true, if_false]
  refine wpAny_bind (wpAny_holding (wpAny_pyIter_list ht ?_))
  refine wpAny_bind (wpAny_holding (draw_list hlt items.size 0 _ _ ⟨_, Heap.get?_push_size _ rfl, rfl, rfl⟩ (ht.push _) (by omega) fun h₁ hit₁ hs₁ => ?_))
  have hall : List.take items.size (List.drop 0 items.toList) = items.toList := by
    rw [List.drop_zero]; exact List.take_of_length_le (by simp)
  rw [hall]
  rw [if_neg (by simp)]
  have ht₁ : h₁.IsList t items := (ht.push _).extBut hs₁.extBut hlt
  refine wpAny_bind (wpAny_holding (wpAny_pyNext_list_end hh hit₁ ht₁ (by simp) fun h₂ he₂ => ?_))
  simp only [Option.isSome_none, Bool.false_eq_true, if_false]
  exact wpAny_pure (h h₂ fun b o hb e => he₂ b o hb (hs₁.extBut b o hb (Heap.get?_push_of_some _ e)))
end
@[irreducible] def rUnpA (K : PySem.W.Frag) (a : Addr) (n : Nat) (t : TGs) (σ : St) (H : Hp) (Q : St → Hp → Prop) : Prop := ∃ xs, (SqT K H a xs ∨ SqL K H a xs) ∧ xs.length = n ∧ t xs σ H Q
def qgAny (K : PySem.W.Frag) (n : Nat) (t : TGs) : TG := fun v σ H Q => match v with
  | .ref a => rUnpA K a n t σ H Q
  | _ => False
theorem pgAny {pos : Pos} {es : List Expr} {k : Nat} {t : TGs} {n : Nat} (hc : X.calm = true) (h : PGs X es t)
    (hn : (assignEach es X.env).length = n := by rfl) (hst : (assignEach es X.env).findIdx? (·.1) = none := by rfl) : PG X (.Tuple es k pos) (qgAny X.K n t) := fun pins s σ H v u Q I r hq => by
  unfold qgAny at hq
  split at hq
  · unfold rUnpA at hq
    obtain ⟨xs, a1, a2, a3⟩ := hq
    rcases a1 with a1 | a1
    · exact pg_tup hc h hn hst pins s σ H _ u Q I r ⟨_, xs, rfl, a1, a2, a3⟩
    · cases r
      obtain ⟨its, rv, pl, hz⟩ := I.list a1
      refine assign_Tuple_list (I.ok.hd hc) pl.isList (by simp [hn, ← a2, rv.length]) hst fun h' hx => ?_
      have I1 : Inv X pins σ H { s with heap := h' } := I.kept (t' := s.toks) fun b o e => hx b o (Nat.ne_of_lt (Heap.lt_size e)) e
      exact h pins _ σ H xs _ Q I1 (by simpa using rv) a3
  · exact hq.elim
theorem unpT_rd {K : PySem.W.Frag} {a : Addr} {n : Nat} {t : TGs} {σ : St} {H : Hp} {Q : St → Hp → Prop} {xs : List V} (h : H a = some (.tup xs)) (q : t xs σ H Q) (e : xs.length = n := by rfl) : rUnpA K a n t σ H Q := by
  unfold rUnpA; exact ⟨xs, .inl (SqT.of h), e, q⟩
end
/-! ### two objects may have changed -/
def Chg2 (a c : Addr) (H H' : Hp) : Prop := ∀ b o, b ≠ a → b ≠ c → H b = some o → H' b = some o
theorem Chg2.at {a c b : Addr} {o : HO} {H H' : Hp} (x : Chg2 a c H H') (e : H b = some o) (h1 : b ≠ a) (h2 : b ≠ c) : H' b = some o := x b o h1 h2 e
/-! == with an empty list -/
/-! ### comprehensions whose elements change things: the word speaks of the heap by itself -/
section
variable {K : PySem.W.Frag} {g : TG} {tt : TT} {te : TE} {σ0 : St} {H1 : Hp} {Q : VK}
end
/-! ### the rules by the written part itself, so that a block's reading hangs on nothing of the block -/
section
variable {X : Cx} {K : PySem.W.Frag}
theorem peIxK {a b : Expr} {ta tb : TE} {pos : Pos} (hK : X.K = K) (ha : PE X a ta) (hb : PE X b tb) (hs : PlainIx b := by exact fun _ _ => rfl) : PE X (.Subscript a b pos) (tOp (rIxM K) ta tb) := by subst hK; exact peIx ha hb hs
theorem cLenK (hK : X.K = K) : CallR X (.builtin "len") (rLenM K) := by subst hK; exact cLen
theorem cIsiK (hK : X.K = K) : CallR X (.builtin "isinstance") (rIsiM K) := by subst hK; exact cIsi
theorem cSumK (hK : X.K = K) (hc : X.calm = true) : CallR X (.builtin "sum") (rSumM K) := by subst hK; exact cSum hc
theorem cAllK (hK : X.K = K) (hc : X.calm = true) : CallR X (.builtin "all") (rAllM K) := by subst hK; exact cAll hc
theorem cListK (hK : X.K = K) : CallR X (.type "list") (rListM K) := by subst hK; exact cList
theorem piSeqK {tg l : Expr} {tl : TE} (hK : X.K = K) (hl : PE X l tl) : PI X tg l (qiSeq K tl) := by subst hK; exact piSeq hl
theorem pgAnyK {pos : Pos} {es : List Expr} {k : Nat} {t : TGs} {n : Nat} (hK : X.K = K) (hc : X.calm = true) (h : PGs X es t)
    (hn : (assignEach es X.env).length = n := by rfl) (hst : (assignEach es X.env).findIdx? (·.1) = none := by rfl) : PG X (.Tuple es k pos) (qgAny K n t) := by subst hK; exact pgAny hc h hn hst
end
end L2

set_option Elab.async false
set_option linter.all false
set_option maxRecDepth 100000
set_option maxHeartbeats 2000000
namespace L2
open PySem PySem.Spec PyProof.Rows
/-! ### enumerate over a list -/
section
variable {X : Cx} {K : PySem.W.Frag}
end
section
variable {K : PySem.W.Frag} {g : TG} {tb : TS} {D : Ends} {σ : St} {H : Hp} {R : It → Hp → Prop}
end
section
variable {K : PySem.W.Frag} {g : TG} {tt : TT} {te : TE} {σ0 : St} {H1 : Hp} {Q : VK}
end
/-! ### list.count of flat things -/
section
variable {X : Cx} {K : PySem.W.Frag}
end
end L2

set_option Elab.async false
set_option linter.all false
set_option maxRecDepth 100000
set_option maxHeartbeats 2000000
namespace L2
open PySem PySem.Spec PyProof.Rows
/-! ### slices -/
theorem cut_drop {xs : List V} {k : Int} (h : 0 ≤ k) : cutV xs (some k) none = xs.drop k.toNat := by
  show List.take (xs.length - (if k < 0 then (k + (xs.length : Int)).toNat else min k.toNat xs.length)) (List.drop (if k < 0 then (k + (xs.length : Int)).toNat else min k.toNat xs.length) xs) = _
  rw [if_neg (by omega)]
  by_cases hk : k.toNat ≤ xs.length
  · rw [Nat.min_eq_left hk, List.take_of_length_le (by rw [List.length_drop]; omega)]
  · rw [Nat.min_eq_right (by omega), List.drop_of_length_le (by omega), List.drop_of_length_le (by omega), List.take_nil]
theorem cut_takeV {xs : List V} {k : Int} (h : 0 ≤ k) : cutV xs none (some k) = xs.take k.toNat := by
  show List.take ((if k < 0 then (k + (xs.length : Int)).toNat else min k.toNat xs.length) - 0) (List.drop 0 xs) = _
  rw [if_neg (by omega), List.drop_zero, Nat.sub_zero]
  by_cases hk : k.toNat ≤ xs.length
  · rw [Nat.min_eq_left hk]
  · rw [Nat.min_eq_right (by omega), List.take_of_length_le (Nat.le_refl _), List.take_of_length_le (by omega)]
/-! ### rows of ints, by a function -/
def rowV (n : Nat) (r : Nat → Int) : List V := (List.range n).map fun t => V.int (r t)
/-! ### an item by a place -/
theorem ref_at {ps : List Addr} {i : Int} {p : Addr} (h0 : 0 ≤ i) (h : ps[i.toNat]? = some p) : atI (ps.map V.ref) i = some (.ref p) := by
  have := atI_nat (xs := ps.map V.ref) (j := i.toNat) (v := .ref p) (by rw [List.getElem?_map, h]; rfl)
  rw [show ((i.toNat : Nat) : Int) = i by omega] at this
  exact this
theorem int_at {ns : List Int} {i : Int} {n : Int} (h0 : 0 ≤ i) (h : ns[i.toNat]? = some n) : atI (ns.map V.int) i = some (.int n) := by
  have := atI_nat (xs := ns.map V.int) (j := i.toNat) (v := .int n) (by rw [List.getElem?_map, h]; rfl)
  rw [show ((i.toNat : Nat) : Int) = i by omega] at this
  exact this
theorem at_last {xs : List V} {v : V} {n : Nat} (h : xs.length = n + 1) (e : xs[n]? = some v) : atI xs (-1) = some v := by
  unfold atI ixN
  rw [if_neg (by decide), if_pos (by omega)]
  show xs[((-1 : Int) + xs.length).toNat]? = _
  rw [show ((-1 : Int) + xs.length).toNat = n by omega]; exact e
theorem ixN_in {n : Nat} {i : Int} (h0 : 0 ≤ i) (h1 : i < n) : ixN n i = some i.toNat := by unfold ixN; rw [if_pos h0, if_pos h1]
/-! ### a list of rows -/
structure GridAt (H : Hp) (a : Addr) (ps : List Addr) (n h : Nat) (g : Nat → Nat → Int) : Prop where
  out : H a = some (.lst (ps.map V.ref))
  len : ps.length = n
  row : ∀ (i : Nat) (p : Addr), ps[i]? = some p → H p = some (.lst (rowV h (g i)))
theorem GridAt.some {H : Hp} {a : Addr} {ps : List Addr} {n h : Nat} {g : Nat → Nat → Int} (G : GridAt H a ps n h g) {i : Nat} (hi : i < n) : ∃ p, ps[i]? = .some p ∧ H p = .some (.lst (rowV h (g i))) := by
  have hl : i < ps.length := by rw [G.len]; exact hi
  exact ⟨ps[i], List.getElem?_eq_getElem hl, G.row i _ (List.getElem?_eq_getElem hl)⟩
/-! ### comprehensions, by what is walked -/
structure Wk (J : It) (n : Nat) (H1 : Hp) (X : Nat → V → Hp → Prop) : Prop where
  go : ∀ i H, Same H1 H → i < n → J.go i H
  stop : ∀ H, Same H1 H → J.stop n H
  yld : ∀ i H x H', Same H1 H → i < n → J.yld i H x H' → Same H H' ∧ X i x H'
theorem Wk.range {lo : Int} {n : Nat} {H1 : Hp} : Wk (Itr lo n) n H1 fun i x _ => x = .int (lo + i) :=
  ⟨fun i H _ h => h, fun H _ => Nat.le_refl _, fun i H x H' _ _ y => by obtain ⟨rfl, rfl⟩ := y; exact ⟨Same.refl _, rfl⟩⟩
theorem Wk.list {K : PySem.W.Frag} {a : Addr} {xs : List V} {H1 : Hp} (h : SqL K H1 a xs) : Wk (Itl K a) xs.length H1 fun i x _ => xs[i]? = some x :=
  ⟨fun i H s hi => ⟨xs, xs[i], s.seq h, by simp [hi]⟩, fun H s => ⟨xs, s.seq h, Nat.le_refl _⟩, fun i H x H' s _ y => by
    obtain ⟨e, y⟩ := y
    subst e
    exact ⟨Same.refl _, y xs (s.seq h)⟩⟩
/-- new lists, one for each turn -/
structure FreshL (H1 H : Hp) (acc : Addr) (ps : List Addr) (n : Nat) (f : Nat → HO) : Prop where
  facc : H1 acc = none
  same : Same H1 H
  out : H acc = some (.lst (ps.map V.ref))
  len : ps.length = n
  nd : ps.Nodup
  nin : acc ∉ ps
  row : ∀ i p, ps[i]? = some p → H1 p = none ∧ H p = some (f i)
theorem FreshL.some {H1 H : Hp} {acc : Addr} {ps : List Addr} {n : Nat} {f : Nat → HO} (F : FreshL H1 H acc ps n f) {i : Nat} (hi : i < n) : ∃ p, ps[i]? = .some p ∧ H p = .some (f i) := by
  have hl : i < ps.length := by rw [F.len]; exact hi
  exact ⟨ps[i], List.getElem?_eq_getElem hl, (F.row i _ (List.getElem?_eq_getElem hl)).2⟩
section
variable {K : PySem.W.Frag} {g : TG} {tt : TT} {te : TE} {σ0 : St} {H1 : Hp} {Q : VK} {J : It} {n : Nat} {X : Nat → V → Hp → Prop}
/-- each turn tells a new object -/
theorem comp_F (w : Wk J n H1 X) (hn : n < sizeLine) (f : Nat → HO) (Ps : Nat → St → Prop) (h0 : Ps 0 σ0)
    (turn : ∀ i x σ H (R : St → V → Hp → Prop) (S : St → Hp → Prop), i < n → Same H1 H → X i x H → Ps i σ → (∀ σ2 p H5, H p = none → Same H H5 → H5 p = some (f i) → Ps (i + 1) σ2 → R σ2 (.ref p) H5) → g x σ H fun σ2 H3 => tt σ2 H3 fun b H4 => br b (te σ2 H4 fun v H5 => R σ2 v H5) (S σ2 H4))
    (fin : ∀ acc ps H, FreshL H1 H acc ps n f → Q (.ref acc) H) : compW J g tt te σ0 H1 Q := by
  unfold compW
  intro acc H2 hf hs ha
  refine ⟨fun i m ys σ H => m = n - i ∧ i ≤ n ∧ ∃ ps : List Addr, ys = ps.map V.ref ∧ FreshL H1 H acc ps i f ∧ Ps i σ, ⟨n, by simp, Nat.zero_le _, [], rfl, ⟨hf, hs, ha, rfl, List.nodup_nil, by simp, fun i p e => by simp at e⟩, h0⟩, ?_⟩
  rintro i m ys σ H ⟨rfl, hi, ps, rfl, F, P⟩
  refine ⟨F.out, by rw [List.length_map, F.len]; omega, ?_⟩
  by_cases hlt : i < n
  · refine .inr ⟨w.go i H F.same hlt, fun x H' y => ?_⟩
    obtain ⟨s1, x1⟩ := w.yld i H x H' F.same hlt y
    refine turn i x σ H' (fun σ2 v H5 => cPut _ acc (ps.map V.ref) i (n - i) σ2 v H5) (fun σ2 H4 => cSkip _ (ps.map V.ref) i (n - i) σ2 H4) hlt (F.same.trans s1) x1 P ?_
    intro σ2 p H5 fp s5 hp P2
    have fp0 : H p = none := s1.free fp
    have s15 := s1.trans s5
    have na : p ≠ acc := Ne.symm (ne_of_none F.out fp0)
    unfold cPut
    refine ⟨s15 _ _ F.out, fun H6 c6 h6 => ⟨n - (i + 1), by omega, rfl, hlt, ps ++ [p], by rw [List.map_append]; rfl, ⟨F.facc, (F.same.trans s15).chg F.facc c6, by rw [List.map_append]; exact h6, by rw [List.length_append, F.len]; rfl, ?_, ?_, ?_⟩, P2⟩⟩
    · rw [List.nodup_append]
      refine ⟨F.nd, by simp, fun a ha b hb => ?_⟩
      have : b = p := by simpa using hb
      subst this
      obtain ⟨k, hk⟩ := List.getElem?_of_mem ha
      exact ne_of_none (F.row k a hk).2 fp0
    · intro hz
      rcases List.mem_append.mp hz with hz | hz
      · exact F.nin hz
      · exact na (by simpa using hz : acc = p).symm
    · intro k q e
      by_cases hk : k < ps.length
      · rw [List.getElem?_append_left hk] at e
        obtain ⟨z1, z2⟩ := F.row k q e
        exact ⟨z1, c6 _ _ (fun z => F.nin (z ▸ List.mem_of_getElem? e)) (s15 _ _ z2)⟩
      · rw [List.getElem?_append_right (by omega)] at e
        have hk2 : k - ps.length = 0 := by
          have := (List.getElem?_eq_some_iff.mp e).1
          simp at this; omega
        rw [hk2] at e
        have : p = q := by simpa using e
        subst this
        have : k = i := by have := F.len; omega
        subst this
        exact ⟨F.same.free fp0, c6 _ _ na hp⟩
  · have e : i = n := by omega
    subst e
    exact .inl ⟨w.stop H F.same, fin acc ps H F⟩
/-- each turn tells a value, or is left out -/
theorem comp_I (w : Wk J n H1 X) (hn : n < sizeLine) (f : Nat → V) (p : Nat → Bool) (Ps : Nat → St → Prop) (h0 : Ps 0 σ0)
    (turn : ∀ i x σ H (R : St → V → Hp → Prop) (S : St → Hp → Prop), i < n → Same H1 H → X i x H → Ps i σ → (p i = true → ∀ σ2 H5, Same H H5 → Ps (i + 1) σ2 → R σ2 (f i) H5) → (p i = false → ∀ σ2 H5, Same H H5 → Ps (i + 1) σ2 → S σ2 H5) →
      g x σ H fun σ2 H3 => tt σ2 H3 fun b H4 => br b (te σ2 H4 fun v H5 => R σ2 v H5) (S σ2 H4))
    (fin : ∀ acc H, H1 acc = none → Same H1 H → H acc = some (.lst (((List.range n).filter p).map f)) → Q (.ref acc) H) : compW J g tt te σ0 H1 Q := by
  unfold compW
  intro acc H2 hf hs ha
  refine ⟨fun i m ys σ H => m = n - i ∧ i ≤ n ∧ ys = ((List.range i).filter p).map f ∧ Same H1 H ∧ H acc = some (.lst ys) ∧ Ps i σ, ⟨n, by simp, Nat.zero_le _, rfl, hs, ha, h0⟩, ?_⟩
  rintro i m ys σ H ⟨rfl, hi, rfl, s, hy, P⟩
  have hlen : (((List.range i).filter p).map f).length ≤ i := by
    rw [List.length_map]
    have := List.length_filter_le p (List.range i)
    rwa [List.length_range] at this
  refine ⟨hy, by omega, ?_⟩
  by_cases hlt : i < n
  · refine .inr ⟨w.go i H s hlt, fun x H' y => ?_⟩
    obtain ⟨s1, x1⟩ := w.yld i H x H' s hlt y
    refine turn i x σ H' (fun σ2 v H5 => cPut _ acc _ i (n - i) σ2 v H5) (fun σ2 H4 => cSkip _ _ i (n - i) σ2 H4) hlt (s.trans s1) x1 P ?_ ?_
    · intro hp σ2 H5 s5 P2
      unfold cPut
      refine ⟨s5 _ _ (s1 _ _ hy), fun H6 c6 h6 => ⟨n - (i + 1), by omega, rfl, hlt, ?_, ((s.trans s1).trans s5).chg hf c6, h6, P2⟩⟩
      rw [List.range_succ, List.filter_append, List.map_append]
      congr 1
      simp [hp]
    · intro hp σ2 H5 s5 P2
      unfold cSkip
      refine ⟨n - (i + 1), by omega, rfl, hlt, ?_, (s.trans s1).trans s5, s5 _ _ (s1 _ _ hy), P2⟩
      rw [List.range_succ, List.filter_append, List.map_append]
      simp [hp]
  · have e : i = n := by omega
    subst e
    exact .inl ⟨w.stop H s, fin acc H hf s hy⟩
theorem filter_T (n : Nat) : (List.range n).filter (fun _ => true) = List.range n := by simp
end
/-! ### several objects may have changed -/
/-! ### == of lists of ints; of lists of these -/
end L2

set_option Elab.async false
set_option linter.all false
set_option maxRecDepth 100000
set_option maxHeartbeats 2000000
namespace L2
open PySem PySem.Spec PyProof.Rows
/-! ### range downwards -/
section
variable {X : Cx} {tg : Expr}
end
section
variable {K : PySem.W.Frag} {g : TG} {tb : TS} {D : Ends} {σ : St} {H : Hp} {R : It → Hp → Prop}
end
/-! ### methods of lists without arguments; extend -/
section
variable {X : Cx} {K : PySem.W.Frag}
def qBM0 (K : PySem.W.Frag) (r : Addr → List V → Hp → VK → Prop) (to : TE) : TE := fun σ H Q => to σ H fun x H1 => match x with
  | .ref p => rLstIs K p H1 (r p [] H1 Q)
  | _ => False
theorem peBM0 {o : Expr} {to : TE} {name : Str} {apos cpos : Pos} {id : String} {r : Addr → List V → Hp → VK → Prop} (slot : Slot "list" name id) (hty : typeOf (.builtin id) = pure (.type "method_descriptor")) (hm : MtA X id r) (ho : PE X o to)
    (hbase : attributeBase o name X.env (eval o X.env) = eval o X.env := by rfl) (hline : (apos.endLine == cpos.line) = true := by rfl) :
    PE X (.Call (.Attribute o name apos) [] [] cpos) (qBM0 X.K r to) := by
  intro pins s σ H Q I h
  refine wpAny_Call_method0_late hbase hline (thn (ho pins s σ H _ I h) fun v s1 ⟨x, H1, I1, r1, q1⟩ => ?_)
  dsimp only at q1
  split at q1
  · rename_i p
    unfold rLstIs at q1
    obtain ⟨hq, q1⟩ := q1
    obtain ⟨h1, h2⟩ := tyV_is (T := "list") I1 r1 (.inl ⟨rfl, hq⟩)
    cases r1
    exact ⟨"list", id, PySem.F.plainAttrs_list, slot, hty, h1, h2, Calls.callWith_builtin rfl (PySem.evalArgs_none (hm pins s1 σ H1 p [] [] Q I1 .nil q1))⟩
  · exact q1.elim
/-! ### xs[::-1] -/
theorem fm_congr {α β : Type} {f g : α → Option β} : ∀ {l : List α}, (∀ a ∈ l, f a = g a) → l.filterMap f = l.filterMap g
  | [], _ => rfl
  | a :: l, h => by
    rw [List.filterMap_cons, List.filterMap_cons, h a List.mem_cons_self, fm_congr fun b hb => h b (List.mem_cons_of_mem _ hb)]
theorem slicePick_rev (its : List Value) : slicePick its.toArray none none (some (-1)) = its.reverse.toArray := by
  unfold slicePick sliceBounds sliceRange
  simp only [Option.getD_some, show ¬ (-1 : Int) > 0 by decide, if_false, List.size_toArray]
  by_cases h0 : its.length = 0
  · have : its = [] := List.length_eq_zero_iff.mp h0
    subst this
    rfl
  · have hgt : ((its.length : Int) - 1) > -1 := by omega
    simp only [hgt, if_true]
    have e1 : (((its.length : Int) - 1 - -1 - -1 - 1) / (- -1)).toNat = its.length := by
      rw [show -(-1 : Int) = 1 by decide, Int.ediv_one]; omega
    rw [e1]
    congr 1
    rw [List.filterMap_map]
    have hk : ∀ k ∈ List.range its.length, ((fun x => its.toArray[x]?) ∘ fun k : Nat => ((its.length : Int) - 1 + -1 * (k : Int)).toNat) k = (some ∘ fun k => its.getD (its.length - 1 - k) .none) k := fun k hk => by
      have hk := List.mem_range.mp hk
      show its.toArray[((its.length : Int) - 1 + -1 * (k : Int)).toNat]? = some (its.getD (its.length - 1 - k) .none)
      rw [show ((its.length : Int) - 1 + -1 * (k : Int)).toNat = its.length - 1 - k by omega, List.getElem?_toArray, List.getD_eq_getElem?_getD, List.getElem?_eq_getElem (by omega)]
      rfl
    rw [fm_congr hk, List.filterMap_eq_map]
    apply List.ext_getElem?
    intro i
    by_cases hi : i < its.length
    · rw [List.getElem?_map, List.getElem?_range hi, List.getElem?_reverse hi, List.getElem?_eq_getElem (by omega)]
      show some (its.getD (its.length - 1 - i) .none) = _
      rw [List.getD_eq_getElem?_getD, List.getElem?_eq_getElem (by omega)]
      rfl
    · rw [List.getElem?_eq_none (by simp; omega), List.getElem?_eq_none (by simp; omega)]
@[irreducible] def rRvA (K : PySem.W.Frag) (a : Addr) (H : Hp) (Q : VK) : Prop := ∃ xs, SqL K H a xs ∧ ∀ p H', H p = none → Same H H' → H' p = some (.lst xs.reverse) → Q (.ref p) H'
def qRv (K : PySem.W.Frag) (te : TE) : TE := fun σ H Q => te σ H fun x H1 => match x with
  | .ref a => rRvA K a H1 Q
  | _ => False
theorem peRv {e : Expr} {te : TE} {p1 p2 p3 pos : Pos} (hK : X.K = K) (he : PE X e te) : PE X (.Subscript e (.Slice none none (some (.UnaryOp .USub (.Constant (.int 1) 0 p1) p3)) p2) pos) (qRv K te) := by
  subst hK
  intro pins s σ H Q I h
  refine Subscript_ (thn (he pins s σ H _ I h) fun v s1 ⟨x, H1, I1, r1, q1⟩ => ?_)
  dsimp only at q1
  split at q1
  case h_2 => exact q1.elim
  rename_i a
  unfold rRvA at q1
  obtain ⟨xs, hx, q⟩ := q1
  refine wpAny_Slice ?_
  rw [evalPart_none]
  refine wpAny_pure (wpAny_pure ?_)
  rw [evalPart_some]
  refine thn (pe_un (X := X) uNeg pe_int pins s1 σ H1 (fun y H2 => y = .int (-1) ∧ H2 = H1) I1 ⟨rfl, rfl⟩) fun u s2 ⟨y, H2, I2, r2, q2⟩ => ?_
  obtain ⟨rfl, rfl⟩ := q2
  obtain ⟨t, rfl⟩ := r2
  cases r1
  have I4 : Inv X pins σ H2 { s2 with heap := s2.heap.push { cls := .type "slice", data := .fields #[.none, .none, .int (-1) t] } } := I2.kept (t' := s2.toks) fun b ob q => Heap.get?_push_of_some _ q
  obtain ⟨its, r, ht, hz⟩ := I4.list hx
  have hlen := r.length
  refine tail_any (ops := [.ref a, .ref s2.heap.objs.size]) ht.isList.typeIs F.slot_list_getitem.lookup ?_ (by with_unfolding_all rfl)
  refine wpAny_getItem_list_slice ht.isList (Heap.IsSliceOf.new ..) .none .none (.int (-1) t) (by simp) ?_ (by rw [List.size_toArray] <;> omega)
  rw [slicePick_rev]
  have hf := I4.hok.fresh (Nat.le_refl _)
  refine ⟨.ref _, _, I4.laid (t' := s2.toks) (o := .lst xs.reverse) (fun b ob q => Heap.get?_push_of_some _ q) (Nat.le_refl _) ?_, rfl, q _ _ hf (Same.upd hf) upd_same⟩
  exact ⟨by rw [List.length_reverse]; exact hz, _, 0, r.reverse, Heap.get?_push_size _ rfl⟩
theorem rv_rd {a : Addr} {H : Hp} {Q : VK} {xs : List V} (h : SqL K H a xs) (q : ∀ p H', H p = none → Same H H' → H' p = some (.lst xs.reverse) → Q (.ref p) H') : rRvA K a H Q := by unfold rRvA; exact ⟨xs, h, q⟩
/-! ### min of a list of ints -/
theorem ptW {e : Expr} {t : TT} (h : PW X e t) : PT X e t := h.pt
end
end L2

set_option Elab.async false
set_option linter.all false
set_option maxRecDepth 100000
set_option maxHeartbeats 2000000
namespace L2
open PySem PySem.Spec PyProof.Rows
/-! ### an exception in flight, with its own dict: what notes a frame leaves it as it is but for its entry -/
/-- its record: no entry yet, or an entry that is in no frame's flight -/
def ExAt (B h : Heap) (e : Addr) (cls : Value) (dx : Option Addr) : Prop :=
  ∃ (oe : Obj) (vs : Array Value), h.get? e = some oe ∧ oe.cls = cls ∧ oe.dict = dx ∧ oe.data = .fields vs ∧ 1 < vs.size ∧
    (vs[1]? = some .none ∨ ∃ (T : Addr) (oT : Obj) (ts : Array Value), vs[1]? = some (.ref T) ∧ B.get? T = none ∧ T ≠ e ∧ h.get? T = some oT ∧ oT.data = .fields ts ∧ 3 < ts.size ∧ ts[3]? = some .none)
/-- nothing is gone -/
def Th (h h' : Heap) : Prop := ∀ b o, h.get? b = some o → ∃ o', h'.get? b = some o'
structure FlyX (B : Heap) (l : List Env) (e : Addr) (cls : Value) (dx : Option Addr) (h : Heap) : Prop where
  stays : B.StaysIn h
  new : B.get? e = none
  frames : h.FunFrames B l
  ex : ExAt B h e cls dx
section
variable {M : Model} {A : Around} {E : Value → Shared → Prop} {s : Shared} {B : Heap} {env : Env} {outer : List Env} {L e : Addr} {cls : Value} {dx : Option Addr} {Q : Unit → Shared → Prop}
theorem mapFields_parts (f : Array Value → Array Value) (o : Obj) : (Obj.mapFields f o).cls = o.cls ∧ (Obj.mapFields f o).dict = o.dict := by
  obtain ⟨c, d, dt, sl⟩ := o
  cases dt <;> exact ⟨rfl, rfl⟩
theorem entry_fly {head : Value} {hn : Bool} {oe : Obj} {vs : Array Value} (hfr : A.frames = some (env :: outer)) (hf : env.frame = some L) (f1 : B.StaysIn s.heap) (f2 : B.get? e = none) (f3 : s.heap.FunFrames B (env :: outer))
    (he : s.heap.get? e = some oe) (hc : oe.cls = cls) (hdx : oe.dict = dx) (hd : oe.data = .fields vs) (hsz : 1 < vs.size)
    (hQ : ∀ h', FlyX B (env :: outer) e cls dx h' → s.heap.UpToSlots h' → Th s.heap h' → Q () { s with heap := h' }) :
    wpAny M A (do let a ← frameOf env; let pl ← entryPlaceOf L hn; let b ← EntryCells.newEntry head a .none (rawInt L) .none pl; setField (.ref e) 1 b) (fun _ s1 => wpAny M A (setFlight (.ref e) none) Q E s1) E s := by
  have hene : e ∉ (env :: outer).filterMap (·.frame) := fun hm => by
    obtain ⟨_, o, ho, hnf⟩ := f3.mem hm
    rw [he] at ho
    cases ho
    exact hnf vs hd
  refine wpAny_bind (wpAny_frameOf_fun hfr f3 hf fun g hg => wpAny_bind (wpAny_entryPlaceOf fun pl hpl => ?_))
  refine wpAny_bind (wpAny_newObj_type ?_ (hpl.sizeOk5 _ _ _ _ _))
  have e1 : g.get? e = some oe := (hg.2.1 e hene).trans he
  have lt1 := Heap.lt_size e1
  generalize hO : ({ cls := .type "traceback", data := .fields ([head, .ref L, .none, rawInt L, .none] ++ (if pl.isEmpty then List.replicate 6 Value.none else pl)).toArray } : Obj) = O
  have hOd : O.data = .fields ([head, .ref L, .none, rawInt L, .none] ++ (if pl.isEmpty then List.replicate 6 Value.none else pl)).toArray := by rw [← hO]
  have hOz : 3 < ([head, .ref L, .none, rawInt L, .none] ++ (if pl.isEmpty then List.replicate 6 Value.none else pl)).toArray.size := by simp
  have hOf : O.isFreed = false := by rw [← hO]; rfl
  generalize ([head, .ref L, .none, rawInt L, .none] ++ (if pl.isEmpty then List.replicate 6 Value.none else pl)).toArray = ts at hOd hOz
  have e2 : (g.push O).get? e = some oe := Heap.get?_push_of_some _ e1
  have t2 : (g.push O).get? g.objs.size = some O := Heap.get?_push_size _ hOf
  have nT : g.objs.size ≠ e := Nat.ne_of_gt lt1
  refine wpAny_setField e2 hd hsz ?_
  have d3 := Obj.data_mapFields hd (fun a => a.setIfInBounds 1 (Value.ref g.objs.size))
  have e3 := Heap.get?_update_self (Obj.mapFields fun a => a.setIfInBounds 1 (Value.ref g.objs.size)) e2 (Obj.isFreed_of_fields d3)
  have t3 := (Heap.get?_update_other (g.push O) (Obj.mapFields fun a => a.setIfInBounds 1 (Value.ref g.objs.size)) (Ne.symm nT)).trans t2
  unfold setFlight
  refine wpAny_bind (wpAny_field e3 d3 (x := .ref g.objs.size) (by simp [hsz]) ?_)
  rw [if_pos (by simp)]
  refine wpAny_setField t3 hOd hOz (hQ _ ?_ ?_ ?_)
  · have kp : ∀ b o, b ≠ e → g.get? b = some o → (((g.push O).update e (Obj.mapFields fun a => a.setIfInBounds 1 (Value.ref g.objs.size))).update g.objs.size (Obj.mapFields fun a => a.setIfInBounds 3 Value.none)).get? b = some o := fun b o hb hz => by
      rw [Heap.get?_update_other _ _ (Nat.ne_of_gt (Heap.lt_size hz)), Heap.get?_update_other _ _ (Ne.symm hb)]
      exact Heap.get?_push_of_some _ hz
    have d4 := Obj.data_mapFields hOd (fun a => a.setIfInBounds 3 Value.none)
    have t4 := Heap.get?_update_self (Obj.mapFields fun a => a.setIfInBounds 3 Value.none) t3 (Obj.isFreed_of_fields d4)
    have e4 := (Heap.get?_update_other ((g.push O).update e (Obj.mapFields fun a => a.setIfInBounds 1 (Value.ref g.objs.size))) (Obj.mapFields fun a => a.setIfInBounds 3 Value.none) nT).trans e3
    have pf := mapFields_parts (fun a => a.setIfInBounds 1 (Value.ref g.objs.size)) oe
    refine ⟨fun b o hb => kp b o (fun z => by rw [z, f2] at hb; cases hb) ((hg.2.1 b fun hm => by rw [(f3.mem hm).1] at hb; cases hb).trans (f1 b o hb)), f2, f3.of_keeps fun b o hb hnf => ?_, _, _, e4, pf.1.trans hc, pf.2.trans hdx, d3, by simpa using hsz, .inr ⟨_, _, _, by simp [hsz], ?_, nT, t4, d4, by simpa using hOz, by simp [hOz]⟩⟩
    · obtain ⟨sl, hs⟩ := hg.2.2 b o hb
      refine ⟨_, kp b _ (fun z => ?_) hs, rfl⟩
      rw [z, he] at hb
      cases hb
      exact hnf vs hd
    · cases q : B.get? g.objs.size with
      | none => rfl
      | some o =>
        have z1 := f1 _ _ q
        have z2 := (hg.2.1 _ fun hm => by rw [(f3.mem hm).1] at q; cases q).trans z1
        exact absurd (Heap.lt_size z2) (Nat.lt_irrefl _)
  · intro b o hb hnf
    obtain ⟨sl, hs⟩ := hg.2.2 b o hb
    refine ⟨sl, ?_⟩
    rw [Heap.get?_update_other _ _ (Nat.ne_of_gt (Heap.lt_size hs)), Heap.get?_update_other _ _ (fun z => ?_)]
    · exact Heap.get?_push_of_some _ hs
    · rw [← z, he] at hb
      cases hb
      exact hnf vs hd
  · intro b o hb
    by_cases hbe : b = e
    · subst hbe
      exact ⟨_, (Heap.get?_update_other _ _ nT).trans e3⟩
    · obtain ⟨sl, hs⟩ := hg.2.2 b o hb
      refine ⟨{ o with slots := sl }, ?_⟩
      rw [Heap.get?_update_other _ _ (Nat.ne_of_gt (Heap.lt_size hs)), Heap.get?_update_other _ _ (Ne.symm hbe)]
      exact Heap.get?_push_of_some _ hs
theorem note_fly (hfr : A.frames = some (env :: outer)) (hf : env.frame = some L) (F : FlyX B (env :: outer) e cls dx s.heap)
    (hQ : ∀ h', FlyX B (env :: outer) e cls dx h' → s.heap.UpToSlots h' → Th s.heap h' → Q () { s with heap := h' }) : wpAny M A (noteFrame (.ref e) env) (fun _ s1 => wpAny M A (setFlight (.ref e) none) Q E s1) E s := by
  obtain ⟨f1, f2, f3, oe, vs, he, hc, hdx, hd, hsz, hT⟩ := F
  unfold noteFrame
  rw [hf]
  rcases hT with h1 | ⟨T, oT, ts, h1, bT, nT, gT, dT, zT, vT⟩
  · refine wpAny_bind (wpAny_field he hd h1 ?_)
    dsimp only
    rw [if_neg (by simp)]
    exact entry_fly hfr hf f1 f2 f3 he hc hdx hd hsz hQ
  · refine wpAny_bind (wpAny_field he hd h1 ?_)
    dsimp only
    rw [if_pos (by simp)]
    refine wpAny_bind (wpAny_field gT dT vT ?_)
    rw [if_neg (by simp [rawInt])]
    refine wpAny_bind (wpAny_setField gT dT zT ?_)
    have ne : ∀ b o, s.heap.get? b = some o → (∀ vs, o.data ≠ .fields vs) → b ≠ T := fun b o hb hnf z => by
      rw [z, gT] at hb
      cases hb
      exact hnf ts dT
    have kp : ∀ b o, b ≠ T → s.heap.get? b = some o → (s.heap.update T (Obj.mapFields fun a => a.setIfInBounds 3 Value.none)).get? b = some o := fun b o hb hz => by
      rw [Heap.get?_update_other _ _ (Ne.symm hb)]; exact hz
    refine entry_fly (s := { s with heap := s.heap.update T (Obj.mapFields fun a => a.setIfInBounds 3 Value.none) }) hfr hf (fun b o hb => kp b o (fun z => by rw [z, bT] at hb; cases hb) (f1 b o hb)) f2 (f3.of_keeps fun b o hb hnf => ⟨o, kp b o (ne b o hb hnf) hb, rfl⟩)
      (kp e oe (Ne.symm nT) he) hc hdx hd hsz fun h' F' U W => hQ h' F' (fun b o hb hnf => U b o (kp b o (ne b o hb hnf) hb) hnf) fun b o hb => ?_
    by_cases hbT : b = T
    · subst hbT
      exact W b _ (Heap.get?_update_self (Obj.mapFields fun a => a.setIfInBounds 3 Value.none) gT (Obj.isFreed_of_fields (Obj.data_mapFields dT _)))
    · exact W b o (kp b o hbT hb)
theorem set_fly (F : FlyX B outer e cls dx s.heap) (hQ : ∀ h', FlyX B outer e cls dx h' → s.heap.UpToSlots h' → Th s.heap h' → Q () { s with heap := h' }) : wpAny M A (setFlight (.ref e) none) Q E s := by
  obtain ⟨f1, f2, f3, oe, vs, he, hc, hdx, hd, hsz, hT⟩ := F
  unfold setFlight
  rcases hT with h1 | ⟨T, oT, ts, h1, bT, nT, gT, dT, zT, vT⟩
  · refine wpAny_bind (wpAny_field he hd h1 ?_)
    rw [if_neg (by simp)]
    exact wpAny_pure (hQ s.heap ⟨f1, f2, f3, oe, vs, he, hc, hdx, hd, hsz, .inl h1⟩ (Heap.UpToSlots.refl _) fun b o hb => ⟨o, hb⟩)
  · refine wpAny_bind (wpAny_field he hd h1 ?_)
    rw [if_pos (by simp)]
    refine wpAny_setField gT dT zT ?_
    have kp : ∀ b o, b ≠ T → s.heap.get? b = some o → (s.heap.update T (Obj.mapFields fun a => a.setIfInBounds 3 Value.none)).get? b = some o := fun b o hb hz => by
      rw [Heap.get?_update_other _ _ (Ne.symm hb)]; exact hz
    have ne : ∀ b o, s.heap.get? b = some o → (∀ vs, o.data ≠ .fields vs) → b ≠ T := fun b o hb hnf z => by
      rw [z, gT] at hb
      cases hb
      exact hnf ts dT
    have d4 := Obj.data_mapFields dT (fun a => a.setIfInBounds 3 Value.none)
    have t4 := Heap.get?_update_self (Obj.mapFields fun a => a.setIfInBounds 3 Value.none) gT (Obj.isFreed_of_fields d4)
    exact hQ _ ⟨fun b o hb => kp b o (fun z => by rw [z, bT] at hb; cases hb) (f1 b o hb), f2, f3.of_keeps fun b o hb hnf => ⟨o, kp b o (ne b o hb hnf) hb, rfl⟩, oe, vs, kp e oe (Ne.symm nT) he, hc, hdx, hd, hsz,
      .inr ⟨T, _, _, h1, bT, nT, t4, d4, by simpa using zT, by simp [zT]⟩⟩ (fun b o hb hnf => ⟨o.slots, kp b o (ne b o hb hnf) hb⟩) fun b o hb => (Classical.em (b = T)).elim (fun z => by subst z; exact ⟨_, t4⟩) fun z => ⟨o, kp b o z hb⟩
/-- leaving a frame -/
theorem leave_fly (hfr : A.frames = some (env :: outer)) (hf : env.frame = some L) (F : FlyX B (env :: outer) e cls dx s.heap)
    (hQ : ∀ h', FlyX B outer e cls dx h' → s.heap.UpToSlots h' → Th s.heap h' → Q () { s with heap := h' }) : wpAny M A (leaving env (.ref e)) Q E s := by
  unfold leaving
  exact wpAny_bind (note_fly hfr hf F fun h' F' U W => hQ h' ⟨F'.stays, F'.new, F'.frames.2.2, F'.ex⟩ U W)
end
/-! ### how an exception lies behind a call -/
/-- an exception flies in the body of X: the state as X has it, B all that stood when it was raised but the frames -/
structure FlyIn (X : Cx) (pins : List (Addr × Obj)) (σ : St) (H : Hp) (B : Heap) (e : Addr) (cls : Value) (dx : Option Addr) (s : Shared) : Prop where
  inv : Inv X pins σ H s
  hok : HOk X.prog X.w H B
  fly : FlyX B X.stack e cls dx s.heap
  kb : ∀ b o, X.s₀.heap.get? b = some o → X.H₀ b = none → b ∉ X.fs → b ∉ X.ex → B.get? b = some o
  en : ∀ o, X.s₀.heap.get? e = some o → e ∈ X.ex
def CXR (P : Program) (w : World) : CXT := fun outer H s E e s' => ∃ (ea : Addr) (cls : Value) (dx : Option Addr) (H' : Hp) (B : Heap), e = .ref ea ∧ s'.os = s.os ∧ AllBare s'.gens ∧ HOk P w H' B ∧ FlyX B outer ea cls dx s'.heap ∧
  Un (frs outer) [] H H' s.heap s'.heap ∧ (∀ b o, s.heap.get? b = some o → H b = none → b ∉ frs outer → B.get? b = some o) ∧ (∀ o, s.heap.get? ea ≠ some o) ∧ E cls dx H'
section
variable {X : Cx} {pins : List (Addr × Obj)} {σ : St} {H : Hp} {s s' : Shared}
theorem not_frame (I : Inv X pins σ H s) {b : Addr} {o : Obj} (e : X.s₀.heap.get? b = some o) (h : b ∉ X.fs) : b ∉ frs X.stack := fun hm => by
  rcases List.mem_cons.mp (I.stkSub b hm) with z | z
  · exact absurd (Nat.lt_of_lt_of_le (Heap.lt_size e) I.ok.above) (by rw [z]; exact Nat.lt_irrefl _)
  · exact h z
/-- out of a callee -/
theorem FlyIn.of_call {E : XK} {e : Value} (I : Inv X pins σ H s) (h : CXR X.prog X.w X.stack H s E e s') : ∃ (ea : Addr) (cls : Value) (dx : Option Addr) (H' : Hp) (B : Heap), e = .ref ea ∧ FlyIn X pins σ H' B ea cls dx s' ∧ E cls dx H' := by
  obtain ⟨ea, cls, dx, H', B, rfl, os, bare, hok, fly, un, kb, en, hE⟩ := h
  refine ⟨ea, cls, dx, H', B, rfl, ⟨I.call' os un (hok.kept fly.stays) bare (fun b hb => absurd hb (by simp)), hok, fly, fun b o e n h1 h2 => ?_, fun o e => ?_⟩, hE⟩
  · have k := I.base.keep b o e n h1 h2
    exact kb b o k (I.base.free b o e n h2) (not_frame I e h1)
  · apply Classical.byContradiction
    intro hx
    obtain ⟨o', k⟩ := I.base.there ea o e hx
    exact en o' k
/-- raised here -/
theorem FlyIn.of_raise {e : Addr} {cls : Value} {args : List Value} {h' : Heap} {t' : Nat} (I : Inv X pins σ H s) (m : Heap.MadeExcOf s.heap h' e cls args) : FlyIn X pins σ H (PySem.W.hideAll s.heap (frs X.stack)) e cls none { s with heap := h', toks := t' } := by
  have nofr : ∀ b o, H b = some o → b ∉ frs X.stack := fun b o hb hm => by rw [I.stkFree b hm] at hb; cases hb
  refine ⟨I.kept m.keeps, fun a o ha => ?_, ⟨fun b o hb => m.keeps _ _ (PySem.W.of_hideAll _ hb), ?_, ?_, ?_⟩, fun b o e n h1 h2 => ?_, fun o hz => ?_⟩
  · refine (I.hok a o ha).stay (fun b u hb hu => PySem.W.hideAll_get _ hu ?_) (fun _ q => q) fun _ _ q => q
    rcases hb with rfl | hb
    · exact nofr _ _ ha
    · exact nofr _ _ hb
  · cases q : (PySem.W.hideAll s.heap (frs X.stack)).get? e with
    | none => rfl
    | some o =>
      have := PySem.W.of_hideAll _ q
      rw [m.new] at this
      cases this
  · refine Heap.FunFrames.of_keeps (fun b o hb _ => ⟨o, m.keeps b o hb, rfl⟩) (PySem.W.funFrames_hide I.stack fun env he a hf => ?_)
    exact List.mem_filterMap.mpr ⟨env, he, hf⟩
  · obtain ⟨t, h1, _, _⟩ := m.there
    exact ⟨_, _, h1, rfl, rfl, rfl, by simp, .inl rfl⟩
  · exact PySem.W.hideAll_get _ (I.base.keep b o e n h1 h2) (not_frame I e h1)
  · apply Classical.byContradiction
    intro hx
    obtain ⟨o', k⟩ := I.base.there _ o hz hx
    rw [m.new] at k
    cases k
/-- what is wanted of an exception that leaves this body -/
def XOut (X : Cx) (E : XK) : Prop := ∀ (pins : List (Addr × Obj)) (σ : St) (H : Hp) (B : Heap) (e : Addr) (cls : Value) (dx : Option Addr) (s : Shared), FlyIn X pins σ H B e cls dx s → E cls dx H → X.xe (.ref e) s
theorem passR {E : XK} (hx : XOut X E) : Passes (CXR X.prog X.w) X E := fun pins σ H s e s' I h => by
  obtain ⟨ea, cls, dx, H', B, rfl, F, hE⟩ := FlyIn.of_call I h
  exact hx _ _ _ _ _ _ _ _ F hE
theorem passR0 {P : Program} {w : World} : Passes (CXR P w) X E0 := fun _ _ _ _ _ _ _ h => by
  obtain ⟨_, _, _, _, _, _, _, _, _, _, _, _, _, h⟩ := h
  exact (show False from h).elim
end
/-- a def's body: the exception leaves its frame -/
theorem xout {P : Program} {w : World} {K : PySem.W.Frag} {mg : Str → Option Value} {base : Heap} {N : List Str} {qual : Str} {scope : Scope} {f : Addr} {cd : Value} {A : Around} {outer : List Env} {s : Shared} {H : Hp} {E : XK} :
    XOut (cxOf (CXR P w) P w K mg base N qual scope f cd A outer s H E) E := fun pins σ H' B e cls dx s' F hE => by
  have I := F.inv
  refine leave_fly (outer := outer) I.ok.frames (rfl : (envOfC qual scope s.heap.objs.size f cd).frame = some s.heap.objs.size) F.fly fun h' F' U W => ?_
  have kb : ∀ b o, s.heap.get? b = some o → H b = none → b ∉ frs outer → B.get? b = some o := fun b o e n h1 => F.kb b o e n h1 (by exact List.not_mem_nil)
  refine ⟨e, cls, dx, H', B, rfl, I.os, I.bare, F.hok, F', ?_, kb, fun o z => absurd (F.en o z) (by exact List.not_mem_nil), hE⟩
  have un : Un (frs outer) [] H H' s.heap s'.heap := I.base
  refine ⟨fun b o e n h1 _ => F'.stays _ _ (kb b o e n h1), fun b o e n h1 h2 => ?_, un.free, fun b o e h2 => ?_, un.tups, un.frzs, un.tbls⟩
  · obtain ⟨sl, k⟩ := un.slot b o e n h1 h2
    obtain ⟨_, o2, ho2, hd⟩ := I.ok.funs.mem h1
    have : o2 = o := Option.some.inj (ho2.symm.trans e)
    subst this
    obtain ⟨sl', k'⟩ := U b _ k hd
    exact ⟨sl', k'⟩
  · obtain ⟨o', k⟩ := un.there b o e h2
    exact W b o' k
/-! ### raise C(..), C a class without __init__ -/
section
variable {X : Cx} {x : Str} {C : Addr} {bm : List Value} {B newId initId : String} {np cpos pos : Pos} {e₀ : Expr} {rest : List Expr} {t : TA} {E : XK}
def qRaise (C : Addr) (E : XK) (t : TA) : TS := fun _ σ H => t σ H fun vs H1 => vs.length ≤ sizeLine ∧ E (.ref C) none H1
theorem psRaise (O : OwnCls x C bm newId X.mg X.base) (FB : ExcBaseFacts B newId initId bm) (hc : X.calm = true) (hout : XOut X E) (ha : PA X (e₀ :: rest) t) (hg : Gl X x := by rfl) (hd : (x == ("__debug__" : Str)) = false := by decide)
    (he : starEach (e₀ :: rest) X.env = (false, eval e₀ X.env) :: starEach rest X.env := by rfl) (hpl : (backTo cpos (starEach rest X.env)).any (·.1) = false := by rfl) :
    PS X (.Raise (some (.Call (.Name x np) (e₀ :: rest) [] cpos)) none pos) (qRaise C E t) := by
  intro pins s σ H D I h
  obtain ⟨tl, N, nm, q, bs, hdct, sn, sub, ab, col, dd, k0, k1, k2, k3, k5, mN, hC, hN, hni, T⟩ := O.obj
  refine wpAny_Raise_call_subT (C := C) (nm := nm) (q := q) (N := N) (bs := bs) (bm := tl) (hdct := hdct) (sn := sn) (sub := sub) (ab := ab) (col := col) (dd := dd) (k0 := k0) (k1 := k1) (k2 := k2) (k3 := k3) (k5 := k5) FB (mN := mN)
    (T.hasType FB.hasBase) (I.ok.hd hc) (by rw [he]; show (false || (backTo cpos (starEach rest X.env)).any (·.1)) = false; rw [hpl]; rfl) hni (ld_glob I hg O.bound ⟨rfl, ?_⟩ hd)
  have hA := ha cpos pins s σ H _ I h
  rw [he] at hA ⊢
  refine Calls.evalArgs_plain (thn hA fun us s2 ⟨vs, H1, I1, r, hz, q⟩ => ⟨rfl, by rw [← r.length]; exact hz, I1.bk _ _ hC, hN.keeps I1.bk, T.keeps I1.bk, fun h' e m => ?_⟩)
  exact hout _ _ _ _ _ _ _ _ (FlyIn.of_raise (t' := s2.toks) I1 m) q
end
/-! ### a def that may raise -/
section
variable {P : Program} {w : World} {K : PySem.W.Frag} {mg : Str → Option Value} {base : Heap}
theorem Fun.okR {x qual : Str} {st : Stmt} {f : Addr} {fd : FuncData} {N ps : List Str} {k : Nat} {sp : Sp} (F : Fun K x qual st f fd) (S : FnScope N ps (defScope st)) (len : ∀ vs H Q E, sp vs H Q E → vs.length = ps.length)
    (hbody : ∀ (cdv : Value) (A : Around) (outer : List Env) (s : Shared) (H : Hp) (vs : List V) (Q : VK) (E : XK), Room k (A.deeper (envOfC qual (defScope st) s.heap.objs.size f cdv)) → XOut (cxOf (CXR P w) P w K mg base N qual (defScope st) f cdv A outer s H E) E → sp vs H Q E →
      ∃ t, PSs (cxOf (CXR P w) P w K mg base N qual (defScope st) f cdv A outer s H E) (defBody st) t ∧ t { nx := fun _ H' => Q .non H', rt := Q } (start N vs) H) : FnOk P w K mg base (CXR P w) (k + 1) f fd ps sp := by
  obtain ⟨oc, od, kV, doc, pm, an, cdv, ct, osl, rfl, lk, hcd⟩ := F.ex
  refine fn_of lk hcd S len fun A outer s H vs Q E hr hsp => ?_
  exact hbody cdv A outer s H vs Q E hr xout hsp
end
end L2

set_option Elab.async false
set_option linter.all false
set_option maxRecDepth 100000
set_option maxHeartbeats 4000000
namespace L2
open PySem PySem.Spec PyProof.Rows
/-! ### isinstance of a caught exception -/
/-- what the written part knows of an exception's class -/
structure ExcK (K : PySem.W.Frag) (D : Addr) : Prop where
  h1 : PySem.W.findIn K (.ref D) "__getattribute__" = some (some (.builtin "BaseException.__getattribute__"))
  h2 : PySem.W.findIn K (.ref D) "__getattr__" = some none
  h3 : PySem.W.findIn K (.ref D) "__class__" = some (some (.builtin "object.__class__"))
  h4 : PySem.W.subIn K (.ref D) (.type "BaseException") = some true
  h5 : PySem.W.mroIn K D (.type "object") = some true
/-- a caught exception -/
def ExcIs (e : Addr) (cls : Value) (dx : Option Addr) (h : Heap) : Prop := ∃ (oe : Obj) (vs : Array Value), h.get? e = some oe ∧ oe.cls = cls ∧ oe.dict = dx ∧ oe.data = .fields vs
section
open PySem.W PySem.Calls
theorem exc_class {prog : Program} {w : World} {A : Around} {E : Value → Shared → Prop} {K : Frag} {D e : Addr} {h : Heap} {g d t os} {Q : Option Value → Shared → Prop} (X : K.In h) (x : ExcIs e (.ref D) none h) (k : ExcK K D)
    (hq : Q (some (.ref D)) ⟨h, g, d, t + 1, os⟩) : wpAny (model prog w) A (getAttr? (.ref e) "__class__") Q E ⟨h, g, d, t, os⟩ := by
  obtain ⟨oe, vs, he, hc, hdx, hd⟩ := x
  obtain ⟨h1, h2, h3, h4, h5⟩ := k
  have L0 : Looks (model prog w) h (typeOf (.ref e)) (.ref D) := hc ▸ (Looks.ld he).andThen .now
  have L1 := looks_findIn (M := model prog w) X h1
  have L2 := looks_findIn (M := model prog w) X h2
  have L3 := looks_findIn (M := model prog w) X h3
  have hx : (onTheHeap (Value.ref D) && Value.builtin "BaseException.__getattribute__" == Value.builtin "object.__getattribute__") = false := by
    have z : (Value.builtin "BaseException.__getattribute__" == Value.builtin "object.__getattribute__") = false := by decide +kernel
    rw [z]; rfl
  have I : InstAt h e oe D none := ⟨he, hc, by unfold notCls; rw [hd], by rw [hdx]; trivial⟩
  have L4 : Looks (model prog w) h (isInstance (.ref e) (.type "BaseException")) true := L0.andThen (looks_subIn X h4)
  have FB := PySem.F.attrBase_ValueError
  have f3 := FB.ga.bind (.ref e)
  have kd : builtinKind "BaseException.__getattribute__" = some .slot := by decide +kernel
  have sid : splitId "BaseException.__getattribute__" = some ("BaseException", "__getattribute__") := by decide +kernel
  have aok := PySem.F.args_bexc_ga (.ref e) (.str "__class__" t)
  have f5 := KF.type_class
  have f6 := PySem.F.slot_gs_get.lookup
  have f7 := PySem.F.slot_gs_set.lookup
  unfold getAttr? getAttrBy? getAttrBy
  refine wpAny_bind (wpAny_mkText (wpAny_bind (wpAny_attempt (wpAny_holding (wpAny_bind (L0.at (wpAny_bind (L1.at ?_))))))))
  dsimp only
  rw [if_neg (by rw [hx]; decide)]
  unfold getAttrByItsOwn hookBefore
  repeat (any_goals (first | assumption | with_reducible refine L0.at ?_ | with_reducible refine L1.at ?_ | with_reducible refine L2.at ?_ | with_reducible refine L3.at ?_ | wp_step))
  refine codeAny_call_builtin FB.ga.plain PySem.F.entry_bexc_ga ?_
  simp only [checkBuiltinCall, kd, sid]
  refine wpAny_bind (L4.at ?_)
  repeat (any_goals (first | assumption | with_reducible refine L0.at ?_ | with_reducible refine L1.at ?_ | with_reducible refine L2.at ?_ | with_reducible refine L3.at ?_ | wp_step))
  refine class_get (ox := oe) (od := none) X I h5 ?_
  repeat (any_goals (first | assumption | wp_step))
theorem kitx_exc {K : Frag} {e D : Addr} (k : ExcK K D) (hcl : (clsIn K D).isSome = true) : KitX K (.ref e) (.ref D) (ExcIs e (.ref D) none) where
  ty := fun M h _ p => by
    obtain ⟨oe, vs, he, hc, _⟩ := p
    exact hc ▸ (Looks.ld he).andThen .now
  it := fun M h X p => by
    obtain ⟨cd, hcd⟩ := Option.isSome_iff_exists.mp hcl
    unfold clsIn at hcd
    split at hcd
    · rename_i ho
      intro A' Q' E' s' kk q
      unfold isType loadHead
      exact wpAny_bind (wpAny_loadPart (kk _ _ (X _ _ ho)) (wpAny_pure q))
    · cases hcd
  ne := fun h tp dd its n sl X htp => by
    refine Bool.eq_false_iff.mpr fun q => ?_
    have z : D = tp := Value.ref.inj (beq_iff_eq.mp q)
    subst z
    obtain ⟨cd, hcd⟩ := Option.isSome_iff_exists.mp hcl
    unfold clsIn at hcd
    split at hcd
    · rename_i ho
      cases (X _ _ ho).symm.trans htp
    · cases hcd
  ca := fun {prog w A E Q s} X p q => by
    obtain ⟨hh, g, d, t, os⟩ := s
    exact exc_class X p k q
end
/-! ### isinstance, of anything and of a caught exception -/
abbrev excO (ea : Addr) (cls : Value) (dx : Option Addr) : HO := .ext (ExcIs ea cls dx)
section
variable {X : Cx} {K : PySem.W.Frag} {H : Hp} {Q : VK}
@[irreducible] def rIsiX (K : PySem.W.Frag) (x c : V) (H : Hp) (Q : VK) : Prop := rIsiA K x c H Q ∨ ∃ (ea D : Addr) (b : Bool), x = .ref ea ∧ H ea = some (excO ea (.ref D) none) ∧ ExcK K D ∧ (PySem.W.clsIn K D).isSome = true ∧ (∀ cv, RelV c cv → PySem.W.kitOne K (.ref D) cv = some b) ∧ Q (.bl b) H
def rIsiMX (K : PySem.W.Frag) : List V → Hp → VK → Prop := fun xs H Q => match xs with
  | [x, c] => rIsiX K x c H Q
  | _ => False
theorem cIsiX (hK : X.K = K) : CallR X (.builtin "isinstance") (rIsiMX K) := by
  subst hK
  intro pins s σ H xs us Q I r h
  unfold rIsiMX at h
  split at h
  · unfold rIsiX at h
    rcases h with h | ⟨ea, D, b, rfl, h1, h2, h3, h4, h5⟩
    · exact cIsi pins s σ H _ us Q I r h
    · obtain ⟨u, w, rfl, r1, r2⟩ := vals2 r
      cases r1
      obtain ⟨p, _⟩ := I.hok ea _ h1
      exact PySem.W.kia_one (kitx_exc h2 h3) I.kIn p (h4 _ r2) (fun z => nomatch z) fun tk => ⟨.bl b, H, I.tok _, rfl, h5⟩
  · exact h.elim
theorem isiE_rd {ea D C : Addr} {b : Bool} (h1 : H ea = some (excO ea (.ref D) none)) (h2 : ExcK K D) (h3 : (PySem.W.clsIn K D).isSome = true) (e : PySem.W.kitOne K (.ref D) (.ref C) = some b) (q : Q (.bl b) H) : rIsiX K (.ref ea) (.ref C) H Q := by
  unfold rIsiX; exact .inr ⟨ea, D, b, rfl, h1, h2, h3, fun cv r => by cases r; exact e, q⟩
theorem isiET_rd {ea D : Addr} {n : String} {b : Bool} (h1 : H ea = some (excO ea (.ref D) none)) (h2 : ExcK K D) (h3 : (PySem.W.clsIn K D).isSome = true) (e : PySem.W.kitOne K (.ref D) (.type n) = some b) (q : Q (.bl b) H) : rIsiX K (.ref ea) (.ty n) H Q := by
  unfold rIsiX; exact .inr ⟨ea, D, b, rfl, h1, h2, h3, fun cv r => by cases r; exact e, q⟩
theorem bt_ValueError : bootBuiltins "ValueError" = some (.type "ValueError") := by decide +kernel
end
/-! ### try: f(..) except C as n: y = n -/
section
variable {X : Cx} {pins : List (Addr × Obj)} {σ : St} {H : Hp} {s : Shared}
/-- what lies behind an exception of a statement that has stored nothing ahead of it -/
def ExcP (X : Cx) (pins : List (Addr × Obj)) (σ : St) (EX : XK) (e : Value) (s' : Shared) : Prop := ∃ (H' : Hp) (B : Heap) (ea : Addr) (cls : Value) (dx : Option Addr), e = .ref ea ∧ FlyIn X pins σ H' B ea cls dx s' ∧ (∀ p ∈ X.pn ++ pins, B.get? p.1 = some p.2) ∧ EX cls dx H'
def PSX (X : Cx) (st : Stmt) (t : XK → TS) : Prop := ∀ (pins : List (Addr × Obj)) (s : Shared) (σ : St) (H : Hp) (D : Ends) (EX : XK), Inv X pins σ H s → t EX D σ H → wpAny (model X.prog X.w) X.A (exec st X.env) (SP X pins D) (ExcP X pins σ EX) s
def PSXs (X : Cx) (l : List Stmt) (t : XK → TS) : Prop := ∀ (pins : List (Addr × Obj)) (s : Shared) (σ : St) (H : Hp) (D : Ends) (EX : XK), Inv X pins σ H s → t EX D σ H → wpAny (model X.prog X.w) X.A (execs l X.env) (SP X pins D) (ExcP X pins σ EX) s
theorem excP_of {EX : XK} {e : Value} {s' : Shared} (I : Inv X pins σ H s) (h : CXR X.prog X.w X.stack H s EX e s') : ExcP X pins σ EX e s' := by
  obtain ⟨ea, cls, dx, H', B, rfl, os, bare, hok, fly, un, k, en, hE⟩ := h
  refine ⟨H', B, ea, cls, dx, rfl, ⟨I.call' os un (hok.kept fly.stays) bare (fun b hb => absurd hb (by simp)), hok, fly, fun b o e n h1 h2 => ?_, fun o e => ?_⟩, fun p hp => ?_, hE⟩
  · exact k b o (I.base.keep b o e n h1 h2) (I.base.free b o e n h2) (not_frame I e h1)
  · apply Classical.byContradiction
    intro hx
    obtain ⟨o', k'⟩ := I.base.there ea o e hx
    exact en o' k'
  · obtain ⟨q1, q2, q3, q4, _⟩ := I.pin p hp
    exact k _ _ q1 q2 fun hm => (List.mem_cons.mp (I.stkSub _ hm)).elim q3 q4
/-- the state moves on while the exception flies -/
theorem FlyIn.move {B : Heap} {e : Addr} {cls : Value} {dx : Option Addr} {h' : Heap} (F : FlyIn X pins σ H B e cls dx s) (hp : ∀ p ∈ X.pn ++ pins, B.get? p.1 = some p.2) (F' : FlyX B X.stack e cls dx h') (U : s.heap.UpToSlots h') (W : Th s.heap h') :
    FlyIn X pins σ H B e cls dx { s with heap := h' } := by
  have I := F.inv
  have cell : ∀ {c : Addr} {v : Option Value}, s.heap.IsCell c v → h'.IsCell c v := fun ⟨o, ho, hd⟩ => by
    obtain ⟨sl, z⟩ := U _ o ho fun vs q => by rw [hd] at q; cases q
    exact ⟨_, z, hd⟩
  refine ⟨⟨I.ok, I.os, I.bare, ⟨fun b o e n h1 h2 => F'.stays _ _ (F.kb b o e n h1 h2), fun b o e n h1 h2 => ?_, I.base.free, fun b o e h2 => ?_, I.base.tups, I.base.frzs, I.base.tbls⟩, ?_, fun x c hc => ?_, I.free, I.freeC, fun p hpp => ?_, F.hok.kept F'.stays, I.len⟩, F.hok, F', F.kb, F.en⟩
  · obtain ⟨sl, k⟩ := I.base.slot b o e n h1 h2
    obtain ⟨_, o2, ho2, hd⟩ := I.ok.funs.mem h1
    have : o2 = o := Option.some.inj (ho2.symm.trans e)
    subst this
    obtain ⟨sl', k'⟩ := U b _ k hd
    exact ⟨sl', k'⟩
  · obtain ⟨o', k⟩ := I.base.there b o e h2
    exact W b o' k
  · obtain ⟨m, hn, hl⟩ := I.loc
    refine ⟨m, U.ns hn, fun i x v h1 h2 h3 => ?_⟩
    obtain ⟨u, r, q⟩ := hl i x v h1 h2 h3
    refine ⟨u, r, ?_⟩
    rcases q with q | ⟨k, c, e, z⟩
    · exact .inl q
    · exact .inr ⟨k, c, e, cell z⟩
  · obtain ⟨v, z⟩ := I.cell x c hc
    exact ⟨v, cell z⟩
  · obtain ⟨_, q2, q3, q4, q5⟩ := I.pin p hpp
    exact ⟨F'.stays _ _ (hp p hpp), q2, q3, q4, q5⟩
/-- a call by itself, its exception kept -/
theorem callX {k j : Nat} {x : Str} {ps : List Str} {sp : Sp} {p pos : Pos} {e : Expr} {es : List Expr} {t : TA} (F : Def X.prog X.w X.K X.mg X.base (CXR X.prog X.w) k x ps sp) (hr : Room j X.A) (ha : PA X.nox (e :: es) t) (hk : k ≤ j := by decide) (hg : Gl X x := by rfl)
    (hdb : (x == ("__debug__" : Str)) = false := by decide) (he : starEach (e :: es) X.env = (false, eval e X.env) :: starEach es X.env := by rfl) (hpl : (backTo pos (starEach es X.env)).any (·.1) = false := by rfl)
    {Q : VK} {EX : XK} (I : Inv X pins σ H s) (h : t σ H fun vs H1 => sp vs H1 Q EX) : wpAny (model X.prog X.w) X.A (eval (.Call (.Name x p) (e :: es) [] pos) X.env) (EP X pins σ Q) (ExcP X pins σ EX) s := by
  obtain ⟨f, fd, F1, F2, F3, F4⟩ := F.ex
  refine wpAny_Call_Name_kw (ld_glob I hg F2 ?_ hdb)
  have hA := ha pos pins s σ H _ (I.wish _) h
  refine PySem.W.callWith_K (h₀ := X.base) I.ok.mod.kin F3 (wpAny_mono hA (fun us s1 h1 => ?_) fun _ _ z => z.elim) he hpl
  obtain ⟨vs, H1, I1, r, q⟩ := h1
  have I1 : Inv X pins σ H1 s1 := I1.unwish
  refine ⟨I1.kIn, ?_⟩
  have hl : us.length = ps.length := by rw [← r.length]; exact F1.len _ _ _ _ q
  have hb := F4 s1 us I1.kIn (by rw [List.append_nil]; exact hl)
  rw [List.append_nil] at hb
  refine wpAny_call (codeAny_mono (F1.run X.A X.stack s1 H1 ⟨us, []⟩ us vs Q EX (hr.mono hk) I1.env0 hb r q) fun r s' hq => ?_)
  cases r with
  | error e => exact excP_of I1 hq
  | ok fl =>
    cases fl with
    | ret u => exact I1.after hq
    | next => exact False.elim hq
    | brk => exact False.elim hq
    | cont => exact False.elim hq
def qxCall (sp : Sp) (t : TA) : XK → TS := fun EX D σ H => t σ H fun vs H1 => sp vs H1 (fun _ H2 => D.nx σ H2) EX
theorem psxCall {k j : Nat} {x : Str} {ps : List Str} {sp : Sp} {p pos spos : Pos} {e : Expr} {es : List Expr} {t : TA} (F : Def X.prog X.w X.K X.mg X.base (CXR X.prog X.w) k x ps sp) (hr : Room j X.A) (ha : PA X.nox (e :: es) t) (hk : k ≤ j := by decide) (hg : Gl X x := by rfl)
    (hdb : (x == ("__debug__" : Str)) = false := by decide) (he : starEach (e :: es) X.env = (false, eval e X.env) :: starEach es X.env := by rfl) (hpl : (backTo pos (starEach es X.env)).any (·.1) = false := by rfl)
    (hs : swapsWith (.Call (.Name x p) (e :: es) [] pos) none spos.line X.env = pure false := by rfl) : PSX X (.Expr (.Call (.Name x p) (e :: es) [] pos) spos) (qxCall sp t) := by
  intro pins s σ H D EX I h
  exact wpAny_Expr_any (wpAny_mono (callX F hr ha hk hg hdb he hpl I h) (fun v s1 ⟨x, H1, I1, r1, q1⟩ => ⟨σ, H1, I1, q1⟩) fun _ _ z => z) I.quiet hs
theorem psxOne {st : Stmt} {t : XK → TS} (h : PSX X st t) : PSXs X [st] t := by
  intro pins s σ H D EX I hq
  refine wpAny_execs_cons (wpAny_mono (h pins s σ H D EX I hq) (fun f s1 q => ?_) fun _ _ z => z)
  cases f with
  | next => exact wpAny_execs_nil q
  | brk => exact q
  | cont => exact q
  | ret u => exact q
/-! the exception is caught: it is tracked from here on -/
theorem ObjOk.ex {P : Program} {w : World} {H : Hp} {h : Heap} {a : Addr} {o : HO} (x : ObjOk P w H h a o) : ∃ u, h.get? a = some u := by
  cases o with
  | lst xs => obtain ⟨_, _, _, _, e⟩ := x; exact ⟨_, e⟩
  | tup xs => obtain ⟨_, _, _, ob, e, _⟩ := x; exact ⟨ob, e⟩
  | dK kvs => obtain ⟨_, _, _, _, ob, _, _, e, _⟩ := x; exact ⟨ob, e⟩
  | dT kvs => obtain ⟨_, _, _, _, ob, _, _, e, _⟩ := x; exact ⟨ob, e⟩
  | set S n => obtain ⟨ob, _, _, _, e, _⟩ := x; exact ⟨ob, e⟩
  | ins C dx fs => obtain ⟨_, _, _, e, _⟩ := x; exact ⟨_, e⟩
  | own y => exact x
  | xd fs => obtain ⟨_, ⟨ob, _, _, e, _⟩, _⟩ := x; exact ⟨ob, e⟩
  | rng lo hi => obtain ⟨_, _, _, e⟩ := x; exact ⟨_, e⟩
  | frz ob u => obtain ⟨e, _⟩ := x; exact ⟨_, e⟩
  | tbl ps => exact ⟨_, (show h.get? a = some _ from x)⟩
  | met f y => exact ⟨_, (show h.get? a = some _ from x)⟩
  | ext φ => obtain ⟨_, e, _⟩ := x; exact e
theorem FlyIn.track {B : Heap} {ea : Addr} {cls : Value} {dx : Option Addr} (F : FlyIn X pins σ H B ea cls dx s) (hp : ∀ p ∈ X.pn ++ pins, B.get? p.1 = some p.2) (hex : X.ex = []) :
    H ea = none ∧ Inv X pins σ (upd H ea (excO ea cls dx)) s := by
  have I := F.inv
  obtain ⟨oe, vs, he, hc, hdx, hd, _⟩ := F.fly.ex
  have hn : H ea = none := by
    cases q : H ea with
    | none => rfl
    | some o =>
      obtain ⟨u, z⟩ := ObjOk.ex (F.hok ea o q)
      rw [F.fly.new] at z
      cases z
  have nl : ∀ {b : Addr} {o : Obj}, s.heap.get? b = some o → (∀ vs, o.data ≠ .fields vs) → b ≠ ea := fun hb hnf z => by
    rw [z, he] at hb
    cases hb
    exact hnf vs hd
  have n0 : ∀ {b : Addr} {o : Obj}, X.s₀.heap.get? b = some o → b ≠ ea := fun hb z => by
    have := F.en _ (z ▸ hb)
    rw [hex] at this
    cases this
  refine ⟨hn, I.ok, I.os, I.bare, ⟨I.base.keep, I.base.slot, fun b o e n h1 => ?_, I.base.there, fun b xs q => ?_, fun b o u q => ?_, fun b ps q => ?_⟩, I.loc, I.cell, ?_, fun x c hcl => ?_, fun p hpp => ?_, fun b o q => ?_, I.len⟩
  · rw [upd_ne (n0 e)]; exact I.base.free b o e n h1
  · have z := I.base.tups b xs q
    rw [upd_ne (ne_of_none z hn)]; exact z
  · have z := I.base.frzs b o u q
    rw [upd_ne (ne_of_none z hn)]; exact z
  · obtain ⟨more, z⟩ := I.base.tbls b ps q
    exact ⟨more, by rw [upd_ne (ne_of_none z hn)]; exact z⟩
  · obtain ⟨m, ⟨o, es, ep, ho, hdd, _⟩, _⟩ := I.loc
    rw [upd_ne (nl ho fun vs q => by rw [hdd] at q; cases q)]; exact I.free
  · obtain ⟨v, o, ho, hdd⟩ := I.cell x c hcl
    rw [upd_ne (nl ho fun vs q => by rw [hdd] at q; cases q)]; exact I.freeC x c hcl
  · obtain ⟨q1, q2, q3, q4, q5⟩ := I.pin p hpp
    refine ⟨q1, ?_, q3, q4, q5⟩
    rw [upd_ne fun z => ?_]
    · exact q2
    · have := hp p hpp
      rw [z, F.fly.new] at this
      cases this
  · by_cases hb : b = ea
    · subst hb
      rw [upd_same] at q
      cases q
      refine ⟨⟨oe, vs, he, hc, hdx, hd⟩, ⟨oe, he⟩, fun h1 h2 x k => ?_⟩
      obtain ⟨o1, v1, e1, r⟩ := x
      exact ⟨o1, v1, k _ e1, r⟩
    · rw [upd_ne hb] at q
      refine (I.hok b o q).stay (fun _ _ _ z => z) (fun c z => ?_) fun c xs z => ?_
      · rw [upd_ne (ne_of_none z hn)]; exact z
      · rw [upd_ne (ne_of_none z hn)]; exact z
/-- a name is unbound -/
theorem unbind_ok {M : Model} {A : Around} {E : Value → Shared → Prop} {i : Nat} {n : Str} {v : V} {Q : Unit → Shared → Prop} (I : Inv X pins σ H s) (hN : X.N.Nodup) (hi : X.N[i]? = some n) (hl : X.env.kindOf n = some .local) (hv : σ[i]? = some (some v))
    (h : ∀ s', Inv X pins (σ.set i none) H s' → Q () s') : wpAny M A (unbindName X.env n) Q E s := by
  obtain ⟨m, hn, hlk⟩ := id I.loc
  have hcls : (X.env.scope.kind == .class || (X.env.scope.kind == .module && X.env.locals != X.env.globals)) = false := by rw [I.ok.kind]; rfl
  obtain ⟨u, _, q⟩ := hlk i n v hi hv (.inl hl)
  have hm : m n = some u := by
    rcases q with q | ⟨k, _⟩
    · exact q.2
    · rw [hl] at k
      rcases k with k | k <;> cases k
  refine wpAny_unbindName_local hl hn hm hcls fun h' u' hn' hs => h _ ?_
  obtain ⟨oL, _, _, hoL, _⟩ := id hn
  have below : ∀ {b : Addr} {o : Obj}, X.s₀.heap.get? b = some o → b ≠ X.env.locals := fun e => Nat.ne_of_lt (Nat.lt_of_lt_of_le (Heap.lt_size e) I.ok.above)
  refine ⟨I.ok, I.os, I.bare, ⟨fun b o e n hb hx => (hs.2 b (below e)).trans (I.base.keep b o e n hb hx), fun b o e n hb hx => ?_, I.base.free, fun b o e hx => ?_, I.base.tups, I.base.frzs, I.base.tbls⟩, ⟨_, hn', fun j y v' e1 e2 e3 => ?_⟩, fun y c e => ?_, I.free, I.freeC, fun p hp => ?_, fun b ob e => ?_, by rw [List.length_set]; exact I.len⟩
  · obtain ⟨sl, z⟩ := I.base.slot b o e n hb hx
    exact ⟨sl, (hs.2 b (below e)).trans z⟩
  · obtain ⟨o', z⟩ := I.base.there b o e hx
    exact ⟨o', (hs.2 b (below e)).trans z⟩
  · by_cases hj : j = i
    · subst hj
      rw [List.getElem?_set_self (by rw [I.len]; exact (List.getElem?_eq_some_iff.mp hi).1)] at e2
      cases e2
    · rw [List.getElem?_set_ne (Ne.symm hj)] at e2
      obtain ⟨w', r', q⟩ := hlk j y v' e1 e2 e3
      refine ⟨w', r', ?_⟩
      rcases q with ⟨k, z⟩ | ⟨k, c, z, zz⟩
      · refine .inl ⟨k, ?_⟩
        have : y ≠ n := fun z => hj (nodup_ix hN e1 (z ▸ hi))
        show (if y = n then u' else m y) = _
        rw [if_neg this]; exact z
      · exact .inr ⟨k, c, z, zz.sameBut hs (I.cne y c z)⟩
  · obtain ⟨w', z⟩ := I.cell y c e
    exact ⟨w', z.sameBut hs (I.cne y c e)⟩
  · obtain ⟨e, n, ne, nf, d⟩ := I.pin p hp
    exact ⟨(hs.2 p.1 ne).trans e, n, ne, nf, d⟩
  · refine (I.hok b ob e).stay (fun c w' hc q => (hs.2 c ?_).trans q) (fun _ q => q) fun _ _ q => q
    rintro rfl
    rcases hc with z | hc
    · rw [← z, I.free] at e; cases e
    · rw [I.free] at hc; cases hc
/-- within an except suite -/
def marked (X : Cx) (e : Value) : Cx := { X with A := X.A.mark (some e), calm := false, xe := fun _ _ => False }
theorem Inv.mark (I : Inv X pins σ H s) (e : Value) : Inv (marked X e) pins σ H s :=
  ⟨⟨I.ok.mod, I.ok.kind, I.ok.glob, I.ok.blt, I.ok.above, I.ok.inj, I.ok.has, I.ok.cab, (fun z => absurd (show false = true from z) Bool.false_ne_true), I.ok.frames, I.ok.stk, I.ok.exf, I.ok.bs, I.ok.bsz, I.ok.noex, I.ok.exfs, I.ok.funs, I.ok.frf⟩, I.os, I.bare, I.base, I.loc, I.cell, I.free, I.freeC, I.pin, I.hok, I.len⟩
theorem Inv.unmark {e : Value} (I0 : Inv X pins σ H s) {σ' : St} {H' : Hp} {s' : Shared} (I : Inv (marked X e) pins σ' H' s') : Inv X pins σ' H' s' :=
  ⟨I0.ok, I.os, I.bare, I.base, I.loc, I.cell, I.free, I.freeC, I.pin, I.hok, I.len⟩
@[irreducible] def xCatch (K : PySem.W.Frag) (CH : Addr) (D : Ends) (σ : St) (ke ky : Nat) (cls : Value) (dx : Option Addr) (H' : Hp) : Prop := PySem.W.exmOne K cls (.ref CH) = some true ∧
  ∀ ea H'', H' ea = none → Same H' H'' → H'' ea = some (excO ea cls dx) → D.nx ((σ.set ke none).set ky (some (.ref ea))) H''
def qTry (K : PySem.W.Frag) (CH : Addr) (t : XK → TS) (ke ky : Nat) : TS := fun D σ H => t (fun cls dx H' => xCatch K CH D σ ke ky cls dx H') D σ H
theorem psTry {K : PySem.W.Frag} {body : List Stmt} {t : XK → TS} {hx n y : Str} {CH : Addr} {ke ky : Nat} {np p1 p2 p3 hpos pos : Pos} (hK : X.K = K) (hN : X.N.Nodup) (hcl : X.mg hx = some (.ref CH)) (hb : PSXs X body t)
    (hke : X.N[ke]? = some n := by rfl) (hky : X.N[ky]? = some y := by rfl) (hkk : ke ≠ ky := by decide) (hln : X.env.kindOf n = some .local := by rfl) (hly : X.env.kindOf y = some .local := by rfl) (hgl : Gl X hx := by rfl) (hdb : (hx == ("__debug__" : Str)) = false := by decide)
    (hnd : (n == ("__debug__" : Str)) = false := by decide) (hnc : (n == ("__classdict__" : Str)) = false := by decide)
    (hstk : X.stack = X.env :: X.outer := by rfl) (hfr : X.env.frame = some X.env.locals := by rfl) (hex : X.ex = [] := by rfl) (hs : swapsWith (.Name n p2) (some (.Name y p1)) p3.line X.env = pure false := by rfl) :
    PS X (.Try body [.ExceptHandler (some (.Name hx np)) (some n) [.Assign [.Name y p1] (.Name n p2) p3] hpos] [] [] pos) (qTry K CH t ke ky) := by
  subst hK
  intro pins s σ H D I h
  rw [arm_exec_Try]
  refine wpAny_bind (wpAny_standAt (wpAny_tryStmt_except (wpAny_mono (hb pins s σ H D _ I h) (fun f s1 q => ?_) fun e s1 q => ?_)))
  · cases f with
    | next => exact wpAny_execs_nil q
    | brk => exact q
    | cont => exact q
    | ret u => exact q
  · obtain ⟨H1, B, ea, cls, dx, rfl, F, hp, q⟩ := q
    unfold xCatch at q
    obtain ⟨hm, q⟩ := q
    have I1 := F.inv
    refine note_fly (L := X.env.locals) (outer := X.outer) (by rw [← hstk]; exact I1.ok.frames) hfr (by rw [← hstk]; exact F.fly) fun h2 F2 U2 W2 => ?_
    rw [← hstk] at F2
    have F2 := F.move hp F2 U2 W2
    have I2 := F2.inv
    refine wpAny_handleBy_cons (codeAny_handlers_test ?_) (by intro z; cases z)
    refine ld_glob (X := marked X (.ref ea)) (I2.mark _) hgl hcl ?_ hdb
    have LT : PySem.W.Looks (model X.prog X.w) h2 (typeOf (.ref ea)) cls := by
      obtain ⟨oe, vs, he, hc, _⟩ := F2.fly.ex
      exact hc ▸ (PySem.W.Looks.ld he).andThen .now
    refine (PySem.W.exm_one I2.kIn LT hm).here ?_
    refine codeAny_handlers_suite_as ?_
    refine set_fly F2.fly fun h3 F3 U3 W3 => ?_
    have F3 := F2.move hp F3 U3 W3
    obtain ⟨hn, I3⟩ := F3.track hp hex
    have hlσ : ke < σ.length := by rw [I1.len]; exact (List.getElem?_eq_some_iff.mp hke).1
    refine store_ok I3 hN hke (.inl hln) (v := .ref ea) rfl (fun s4 I4 => ?_) (.inr hln)
    have pn : PS (marked X (.ref ea)) (.Assign [.Name y p1] (.Name n p2) p3) (tAsg (qV ke) (gName ky)) := ps_set (X := marked X (.ref ea)) hN hky (.inl hly) (pq (X := marked X (.ref ea)) ke hke (.inl hln) hnd hnc) hs (.inr hly)
    refine wpAny_mono (pss_one pn pins s4 _ _ { nx := fun σ' H' => σ' = (σ.set ke (some (.ref ea))).set ky (some (.ref ea)) ∧ H' = upd H1 ea (excO ea cls dx), rt := fun _ _ => False } (I4.mark (.ref ea)) ?_) (fun f s5 q5 => ?_) fun _ _ z => (show False from z).elim
    · show qV ke (σ.set ke (some (.ref ea))) _ _
      unfold qV
      rw [List.getElem?_set_self hlσ]
      exact ⟨rfl, rfl⟩
    · cases f with
      | next =>
        obtain ⟨σ5, H5, I5, rfl, rfl⟩ := q5
        have I5 := Inv.unmark I1 I5
        refine wpAny_bind (wpAny_bindName (store_ok I5 hN hke (.inl hln) (v := .non) rfl (fun s6 I6 => ?_) (.inr hln)))
        refine wpAny_onRaise (unbind_ok (v := .non) I6 hN hke hln (by rw [List.getElem?_set_self (by rw [List.length_set, List.length_set]; exact hlσ)]) fun s7 I7 => ?_)
        refine ⟨_, _, I7, ?_⟩
        rw [List.set_set, List.set_comm _ _ (Ne.symm hkk), List.set_set]
        exact q ea _ hn (Same.upd hn) upd_same
      | brk => obtain ⟨_, _, _, z⟩ := q5; exact False.elim z
      | cont => obtain ⟨_, _, _, z⟩ := q5; exact False.elim z
      | ret u => obtain ⟨_, _, _, _, _, z⟩ := q5; exact False.elim z
end
end L2

set_option Elab.async false
set_option linter.all false
set_option maxRecDepth 100000
set_option maxHeartbeats 4000000
namespace L2
open PySem PySem.Spec PyProof.Rows
/-! ### what the written part says of the classes -/
section
open PySem.W
theorem own_of_K {K : Frag} {h : Heap} {mg : Str → Option Value} {x : Str} {C : Addr} {bmB : List Value} {newId : String} (X : K.In h) (G : h.Ns mainGlobals mg) (e : nsIn K mainGlobals x = some (some (.ref C))) (q : excIn K C bmB newId = true) : OwnCls x C bmB newId mg h := by
  have bd := mg_of X G e
  unfold excIn at q
  split at q
  case h_2 => cases q
  rename_i dd cd sl ho
  split at q
  case h_2 => cases q
  rename_i C1 bm k0 k1 k2 k3 n k5 hm hs
  simp only [Bool.and_eq_true, beq_iff_eq, Bool.not_eq_true'] at q
  obtain ⟨⟨⟨⟨⟨q1, q2⟩, q3⟩, q4⟩, q5⟩, q6⟩ := q
  have z : sl = #[k0, k1, k2, k3, some (.builtin n), k5] := by
    cases sl with
    | mk l => rw [show l = [k0, k1, k2, k3, some (.builtin n), k5] from hs]
  cases cd with
  | mk nm bs mro ns qn hd sn sub ab col del =>
    have hm : mro = .ref C1 :: bm := hm
    have q3 : del = false := q3
    subst q1 q2 z hm q3
    exact ⟨bd, bm, ns, nm, qn, bs, hd, sn, sub, ab, col, dd, k0, k1, k2, k3, k5, _, X _ _ ho, .of_isNs (isNs_of_in X q5), nsMap_none_of_in X q5 q6, tail_of_in X q4⟩
theorem kitCls_ref {K : Frag} {t : Value} {C : Addr} {cd : ClassData} {b : Bool} (h1 : clsIn K C = some cd) (h2 : typeIn K (.ref C) = some (.type "type")) (h3 : subIn K t (.ref C) = some b) : kitCls K t (.ref C) = some b := by
  unfold kitCls
  dsimp only
  rw [h1, h2, if_pos (by simp)]
  exact h3
theorem kit_ref {K : Frag} {t : Value} {C : Addr} {cd : ClassData} {b : Bool} (h1 : clsIn K C = some cd) (h2 : typeIn K (.ref C) = some (.type "type")) (h3 : subIn K t (.ref C) = some b) (h4 : subIn K t t = some true) : kitOne K t (.ref C) = some b := by
  unfold kitOne
  split
  · rename_i z
    have z : t = .ref C := by simpa using z
    subst z
    rw [h3] at h4
    exact h4.symm
  · exact kitCls_ref h1 h2 h3
theorem kit_none {K : Frag} {C : Addr} {cd : ClassData} {b : Bool} (h1 : clsIn K C = some cd) (h2 : typeIn K (.ref C) = some (.type "type")) (h3 : subIn K (.type "NoneType") (.ref C) = some b) : kitOne K (.type "NoneType") (.ref C) = some b := by
  unfold kitOne
  rw [if_neg (by simp)]
  exact kitCls_ref h1 h2 h3
theorem kit_ValueError {K : Frag} {D : Addr} {b : Bool} (h : subIn K (.ref D) (.type "ValueError") = some b) : kitOne K (.ref D) (.type "ValueError") = some b := by
  unfold kitOne kitCls
  rw [if_neg (by simp)]
  dsimp only
  rw [if_pos (by decide +kernel)]
  exact h
theorem exm_ref {K : Frag} {t : Value} {C : Addr} {cd : ClassData} {b : Bool} (h0 : subIn K (.ref C) (.type "BaseException") = some true) (h1 : clsIn K C = some cd) (h2 : typeIn K (.ref C) = some (.type "type")) (h3 : subIn K t (.ref C) = some b) : exmOne K t (.ref C) = some b := by
  unfold exmOne
  rw [if_pos (by rw [h0]; simp)]
  exact kitCls_ref h1 h2 h3
end
/-- what a caught exception is -/
theorem catch_rd {K : PySem.W.Frag} {CH : Addr} {D : Ends} {σ : St} {ke ky : Nat} {cls : Value} {dx : Option Addr} {H' : Hp} (h1 : PySem.W.exmOne K cls (.ref CH) = some true) (h2 : ∀ ea H'', H' ea = none → Same H' H'' → H'' ea = some (excO ea cls dx) → D.nx ((σ.set ke none).set ky (some (.ref ea))) H'') : xCatch K CH D σ ke ky cls dx H' := by
  unfold xCatch; exact ⟨h1, h2⟩
abbrev bmV : List Value := [.type "ValueError", .type "Exception", .type "BaseException", .type "object"]
abbrev newV : String := "ValueError.__new__"
/-! ### list.index of flat things -/
section
variable {X : Cx} {K : PySem.W.Frag}
end
/-! ### the same words, closed: a row of literals alone would be run while its term is read -/
section
variable {X : Cx} {st : Stmt} {rest : List Stmt} {t u : TS} {e : Expr} {es : List Expr} {te : TE} {ta : TA}
end
end L2

set_option Elab.async false
set_option linter.all false
set_option maxRecDepth 100000
set_option maxHeartbeats 1000000
namespace L2
open PySem PySem.Spec PyProof.Rows
/-! ### sorted(e, reverse = True), of ints -/
section
variable {X : Cx} {K : PySem.W.Frag}
end
end L2

set_option Elab.async false
set_option linter.all false
set_option maxRecDepth 100000
set_option maxHeartbeats 2000000
namespace L2
open PySem PySem.Spec PyProof.Rows
/-! ### zip over two lists -/
def Itz (K : PySem.W.Frag) (a b : Addr) : It :=
  ⟨fun i H => ∃ xs ys x y, SqL K H a xs ∧ SqL K H b ys ∧ xs[i]? = some x ∧ ys[i]? = some y,
   fun i H v H' => ∃ p x y, v = .ref p ∧ H p = none ∧ Same H H' ∧ H' p = some (.tup [x, y]) ∧ (∀ xs, SqL K H a xs → xs[i]? = some x) ∧ ∀ ys, SqL K H b ys → ys[i]? = some y,
   fun i H => ∃ xs ys, SqL K H a xs ∧ SqL K H b ys ∧ (xs.length ≤ i ∨ ys.length ≤ i)⟩
theorem turn_zip {P : Program} {w : World} {K : PySem.W.Frag} {elts : List Expr} {k : Nat} {pos : Pos} (l1 l2 z TI TO i1 i2 : Addr) (D : ZipApart z TI TO i1 i2 l1 l2) :
    Turn P w K (.Tuple elts k pos) (Itz K l1 l2) [z, TI, TO, i1, i2] z (fun i h => IsZip h z TI TO .none ∧ IsPair h TI (.ref i1) (.ref i2) ∧ (∃ a b, IsPair h TO a b) ∧ h.IsListIter i1 l1 i ∧ h.IsListIter i2 l2 i) where
  mem := by simp
  obj := fun i h st b hb => by
    obtain ⟨hz, hTI, ⟨a, b', hTO⟩, ⟨o1, e1, c1, d1⟩, ⟨o2, e2, c2, d2⟩⟩ := st
    simp only [List.mem_cons, List.not_mem_nil, or_false] at hb
    rcases hb with rfl | rfl | rfl | rfl | rfl
    · exact ⟨_, hz, fun v z => by cases z⟩
    · exact ⟨_, hTI, fun v z => by cases z⟩
    · exact ⟨_, hTO, fun v z => by cases z⟩
    · exact ⟨o1, e1, fun v z => by rw [d1] at z; cases z⟩
    · exact ⟨o2, e2, fun v z => by rw [d2] at z; cases z⟩
  keep := fun i h h' st kp => by
    obtain ⟨hz, hTI, ⟨a, b', hTO⟩, h1, h2⟩ := st
    exact ⟨kp z (by simp) _ hz, kp TI (by simp) _ hTI, ⟨a, b', kp TO (by simp) _ hTO⟩, h1.at fun o x => kp i1 (by simp) o x, h2.at fun o x => kp i2 (by simp) o x⟩
  item := by
    intro X hP hw hK hc i pins s σ H E I hf st hg
    subst hP hw hK
    obtain ⟨hz, hTI, ⟨a0, b0, hTO⟩, h1, h2⟩ := st
    obtain ⟨xs, ys, x, y, hq1, hq2, hx, hy⟩ := hg
    obtain ⟨its1, rv1, p1, _⟩ := I.list hq1
    obtain ⟨its2, rv2, p2, _⟩ := I.list hq2
    obtain ⟨u, hu, ru⟩ := rv1.get hx
    obtain ⟨v, hv, rv⟩ := rv2.get hy
    have hzl : z < s.heap.objs.size := Heap.lt_size hz
    refine wpAny_pyNext_zip_item D hz hTI hTO h1 h2 p1.isList p2.isList (x := u) (y := v) (by simpa using hu) (by simpa using hv) fun h3 z3 TO3 j1 j2 T3 sz3 kp3 => ?_
    refine ⟨_, rfl, wpAny_letOwnedTupleGo_zip z3 fun h4 z4 hs4 => ?_⟩
    replace hs4 : Heap.SameBut z h3 h4 := hs4
    have kp : ∀ b o, b ∉ [z, TI, TO, i1, i2] → s.heap.get? b = some o → h4.get? b = some o := fun b o hb x => by
      simp only [List.mem_cons, List.not_mem_nil, or_false, not_or] at hb
      obtain ⟨b1, b2, b3, b4, b5⟩ := hb
      exact (hs4.2 b b1).trans (kp3 b o b1 b3 b4 b5 x)
    have ht4 : h4.get? s.heap.objs.size = some { cls := .type "tuple", data := .seq #[u, v] } := (hs4.2 _ (Nat.ne_of_gt hzl)).trans T3
    have hfr : H s.heap.objs.size = none := I.fresh
    have nof : ∀ b v, H b = some v → b ∉ [z, TI, TO, i1, i2] := fun b v hb m => by
      have := (hf b m).1
      rw [this] at hb
      cases hb
    have nlt : ∀ b o, s.heap.get? b = some o → b ≠ s.heap.objs.size := fun b o x => Nat.ne_of_lt (Heap.lt_size x)
    have hok : HOk X.prog X.w (upd H s.heap.objs.size (.tup [x, y])) h4 := fun b v' hb => by
      by_cases e1 : b = s.heap.objs.size
      · subst e1
        rw [upd_same] at hb
        cases hb
        exact ⟨by show 2 ≤ sizeLine; decide, [u, v], .cons ru (.cons rv .nil), ⟨_, ht4, rfl, _, rfl⟩⟩
      · rw [upd_ne e1] at hb
        refine (I.hok b v' hb).stay (fun c w' hc q => ?_) (fun c q => ?_) (fun c ys q => ?_)
        · rcases hc with rfl | hc
          · exact kp _ _ (nof _ _ hb) q
          · exact kp _ _ (nof _ _ hc) q
        · rw [upd_ne (ne_of_none q hfr)]; exact q
        · rw [upd_ne (ne_of_none q hfr)]; exact q
    have chs : ∀ b ∈ [z, TI, TO, i1, i2], (b ∈ X.ex ∨ X.s₀.heap.objs.size ≤ b) ∧ b ≠ X.env.locals ∧ (∀ x c, X.env.cells.lookup x = some c → c ≠ b) ∧ ∀ p ∈ X.pn ++ pins, p.1 ≠ b := fun b hb => by
      obtain ⟨f0, f1, f2, f3, f4, f5⟩ := hf b hb
      exact ⟨f3, f1, f4, f5⟩
    have I2 : Inv X pins σ (upd H s.heap.objs.size (.tup [x, y])) { s with heap := h4 } :=
      I.step (g' := s.gens) (d' := s.drawn) (t' := s.toks) (ch := [z, TI, TO, i1, i2]) chs (fun b o _ _ hb x _ => kp b o hb x) (fun b o _ _ hb x _ => ⟨o.slots, kp b o hb x⟩)
        (fun b o _ x n => by rw [upd_ne (nlt b o x)]; exact n) (fun b o hb x => ⟨o, kp b o hb x⟩) (fun b ys q => by rw [upd_ne (ne_of_none q hfr)]; exact q) (fun b o v q => by rw [upd_ne (ne_of_none q hfr)]; exact q)
        (fun b ps q => ⟨#[], by rw [upd_ne (ne_of_none q hfr), q]; simp⟩)
        (fun m hm => by
          obtain ⟨o, es, ep, ho, r⟩ := hm
          exact ⟨o, es, ep, kp _ o (fun m => (chs _ m).2.1 rfl) ho, r⟩) hok I.bare
    refine ⟨.ref s.heap.objs.size, _, I2, rfl, ⟨_, x, y, rfl, hfr, Same.upd hfr, upd_same, fun ys hy' => by rw [I.list_inj hy' hq1]; exact hx, fun ys hy' => by rw [I.list_inj hy' hq2]; exact hy⟩, ⟨z4, ?_, ⟨u, v, ?_⟩, ?_, ?_⟩, fun b hb => ?_⟩
    · exact (hs4.2 _ D.TIz).trans (kp3 _ _ D.TIz D.TITO D.TIi1 D.TIi2 hTI)
    · exact (hs4.2 _ D.TOz).trans TO3
    · exact j1.extBut hs4.extBut D.i1z
    · exact j2.extBut hs4.extBut D.i2z
    · have hb0 : H b = none := (hf b hb).1
      have hlt : b ≠ s.heap.objs.size := by
        simp only [List.mem_cons, List.not_mem_nil, or_false] at hb
        rcases hb with rfl | rfl | rfl | rfl | rfl
        · exact nlt _ _ hz
        · exact nlt _ _ hTI
        · exact nlt _ _ hTO
        · obtain ⟨o, ho, _⟩ := h1; exact nlt _ _ ho
        · obtain ⟨o, ho, _⟩ := h2; exact nlt _ _ ho
      rw [upd_ne hlt]; exact hb0
  done := by
    intro X hP hw hK hc i pins s σ H E I hf st hg
    subst hP hw hK
    obtain ⟨hz, hTI, ⟨a0, b0, hTO⟩, h1, h2⟩ := st
    obtain ⟨xs, ys, hq1, hq2, hx⟩ := hg
    obtain ⟨its1, rv1, p1, _⟩ := I.list hq1
    obtain ⟨its2, rv2, p2, _⟩ := I.list hq2
    have hl1 := rv1.length
    have hl2 := rv2.length
    have nof : ∀ b v, H b = some v → b ∉ [z, TI, TO, i1, i2] := fun b v hb m => by
      have := (hf b m).1
      rw [this] at hb
      cases hb
    have chs : ∀ b ∈ [z, TI, TO, i1, i2], (b ∈ X.ex ∨ X.s₀.heap.objs.size ≤ b) ∧ b ≠ X.env.locals ∧ (∀ x c, X.env.cells.lookup x = some c → c ≠ b) ∧ ∀ p ∈ X.pn ++ pins, p.1 ≠ b := fun b hb => by
      obtain ⟨f0, f1, f2, f3, f4, f5⟩ := hf b hb
      exact ⟨f3, f1, f4, f5⟩
    refine wpAny_pyNext_zip_end (I.ok.hd hc) D hz hTI hTO h1 h2 p1.isList p2.isList ?_ fun h' kp3 => ⟨rfl, ?_⟩
    · rcases hx with hx | hx
      · exact .inl (by simp; omega)
      · exact .inr (by simp; omega)
    · have kp : ∀ b o, b ∉ [z, TI, TO, i1, i2] → s.heap.get? b = some o → h'.get? b = some o := fun b o hb x => by
        simp only [List.mem_cons, List.not_mem_nil, or_false, not_or] at hb
        obtain ⟨b1, b2, b3, b4, b5⟩ := hb
        exact kp3 b o b1 b3 b4 b5 x
      have hok : HOk X.prog X.w H h' := fun b v' hb => by
        refine (I.hok b v' hb).stay (fun c w' hc q => ?_) (fun c q => q) (fun c ys q => q)
        rcases hc with rfl | hc
        · exact kp _ _ (nof _ _ hb) q
        · exact kp _ _ (nof _ _ hc) q
      exact I.step (g' := s.gens) (d' := s.drawn) (t' := s.toks) (ch := [z, TI, TO, i1, i2]) chs (fun b o _ _ hb x _ => kp b o hb x) (fun b o _ _ hb x _ => ⟨o.slots, kp b o hb x⟩)
        (fun b o _ x n => n) (fun b o hb x => ⟨o, kp b o hb x⟩) (fun b ys q => q) (fun b o v q => q)
        (fun b ps q => ⟨#[], by rw [q]; simp⟩)
        (fun m hm => by
          obtain ⟨o, es, ep, ho, r⟩ := hm
          exact ⟨o, es, ep, kp _ o (fun m => (chs _ m).2.1 rfl) ho, r⟩) hok I.bare
  self := fun _ _ _ _ _ st h => wpAny_pyIter_zip st.1 h
section
variable {X : Cx} {K : PySem.W.Frag}
theorem bt_zip : bootBuiltins "zip" = some (.type "zip") := by decide +kernel
@[irreducible] def rZip (K : PySem.W.Frag) (a b : Addr) (H : Hp) (R : It → Hp → Prop) : Prop := (∃ xs, SqL K H a xs) ∧ (∃ ys, SqL K H b ys) ∧ R (Itz K a b) H
def qiZip (K : PySem.W.Frag) (ta : TA) : TI := fun σ H R => ta σ H fun vs H1 => match vs with
  | [.ref a, .ref b] => rZip K a b H1 R
  | _ => False
theorem piZipK {elts : List Expr} {k : Nat} {pt : Pos} {a b : Expr} {ta : TA} {p pos : Pos} (hK : X.K = K) (hm : X.mg "zip" = none) (ha : PA X [a, b] ta) (hg : Gl X "zip" := by rfl) (hs : starEach [a, b] X.env = (false, eval a X.env) :: starEach [b] X.env := by rfl)
    (hpl : (backTo pos (starEach [b] X.env)).any (·.1) = false := by rfl) :
    PI X (.Tuple elts k pt) (.Call (.Name "zip" p) [a, b] [] pos) (qiZip K ta) := by
  subst hK
  intro pins s σ H R I h
  refine Call_ (ld_blt I hg hm bt_zip (PyProof.Rows.callWith_type1 (thn (ha pos pins s σ H _ I h) fun us s1 ⟨vs, H1, I1, r1, q1⟩ => ?_) hs hpl))
  dsimp only at q1
  split at q1
  · rename_i l m
    unfold rZip at q1
    obtain ⟨⟨xs, hq1⟩, ⟨ys, hq2⟩, q⟩ := q1
    obtain ⟨u1, u2, rfl, rx, ry⟩ := vals2 r1
    cases rx
    cases ry
    obtain ⟨its1, rv1, p1, _⟩ := I1.list hq1
    obtain ⟨its2, rv2, p2, _⟩ := I1.list hq2
    have l1 : @LT.lt Nat _ l s1.heap.objs.size := by obtain ⟨o, ho, _⟩ := p1.isList; exact Heap.lt_size ho
    have l2 : @LT.lt Nat _ m s1.heap.objs.size := by obtain ⟨o, ho, _⟩ := p2.isList; exact Heap.lt_size ho
    refine call_zip_2 p1.isList p2.isList fun h' hz hTI hTO j1 j2 hsz hk => ?_
    refine wpAny_pyIter_zip hz ?_
    have I2 : Inv X pins σ H1 { s1 with heap := h' } := I1.kept (t' := s1.toks) hk
    have D : ZipApart (s1.heap.objs.size + 4) (s1.heap.objs.size + 2) (s1.heap.objs.size + 3) s1.heap.objs.size (s1.heap.objs.size + 1) l m := by
      constructor <;> (intro z; have z : (_ : Nat) = _ := z; omega)
    refine ⟨_, _, _, Itz X.K l m, H1, rfl, I2, turn_zip l m _ _ _ _ _ D, ⟨hz, hTI, ⟨_, _, hTO⟩, j1, j2⟩, fun b hb => ?_, q⟩
    have hb' : s1.heap.objs.size ≤ b := by
      simp only [List.mem_cons, List.not_mem_nil, or_false] at hb
      rcases hb with rfl | rfl | rfl | rfl | rfl
      · exact Nat.le_add_right _ _
      · exact Nat.le_add_right _ _
      · exact Nat.le_add_right _ _
      · exact Nat.le_refl _
      · exact Nat.le_add_right _ _
    exact I1.fpOk hb' (I1.hok.fresh hb')
  · exact q1.elim
end
section
variable {K : PySem.W.Frag} {g : TG} {tb : TS} {D : Ends} {σ : St} {H : Hp} {R : It → Hp → Prop}
theorem zip_rd {a b : Addr} {xs ys : List V} (h : SqL K H a xs) (h' : SqL K H b ys) (q : R (Itz K a b) H) : rZip K a b H R := by unfold rZip; exact ⟨⟨xs, h⟩, ⟨ys, h'⟩, q⟩
end
end L2

set_option Elab.async false
set_option linter.all false
set_option maxRecDepth 100000
set_option maxHeartbeats 2000000
namespace L2
open PySem PySem.Spec PyProof.Rows
section
variable {X : Cx} {K : PySem.W.Frag}
/-! ### list(range(n)) -/
end
/-! ### comprehensions of things with new objects behind them -/
section
variable {J : It} {n : Nat} {H1 : Hp} {X : Nat → V → Hp → Prop} {g : TG} {tt : TT} {te : TE} {σ0 : St} {Q : VK}
theorem comp_A (w : Wk J n H1 X) (hn : n < sizeLine) (Pv : Addr → Nat → List V → St → Hp → Prop) (h0 : ∀ acc H, H1 acc = none → Same H1 H → H acc = some (.lst []) → Pv acc 0 [] σ0 H)
    (hP : ∀ acc i ys σ H H', Same H H' → Pv acc i ys σ H → Pv acc i ys σ H')
    (turn : ∀ acc i x ys σ H (R : St → V → Hp → Prop) (S : St → Hp → Prop), i < n → H1 acc = none → Same H1 H → H acc = some (.lst ys) → X i x H → Pv acc i ys σ H →
      (∀ σ2 v H5, Same H H5 → (∀ H6, Chg acc H5 H6 → Pv acc (i + 1) (ys ++ [v]) σ2 H6) → R σ2 v H5) → (∀ σ2 H5, Same H H5 → Pv acc (i + 1) ys σ2 H5 → S σ2 H5) →
      g x σ H fun σ2 H3 => tt σ2 H3 fun b H4 => br b (te σ2 H4 fun v H5 => R σ2 v H5) (S σ2 H4))
    (fin : ∀ acc ys σ H, H1 acc = none → Same H1 H → H acc = some (.lst ys) → Pv acc n ys σ H → Q (.ref acc) H) : compW J g tt te σ0 H1 Q := by
  unfold compW
  intro acc H2 hf hs ha
  refine ⟨fun i m ys σ H => m = n - i ∧ i ≤ n ∧ ys.length ≤ i ∧ Same H1 H ∧ H acc = some (.lst ys) ∧ Pv acc i ys σ H, ⟨n, by simp, Nat.zero_le _, Nat.le_refl _, hs, ha, h0 acc H2 hf hs ha⟩, ?_⟩
  rintro i m ys σ H ⟨rfl, hi, hl, s, hy, P⟩
  refine ⟨hy, by omega, ?_⟩
  by_cases hlt : i < n
  · refine .inr ⟨w.go i H s hlt, fun x H' y => ?_⟩
    obtain ⟨s1, x1⟩ := w.yld i H x H' s hlt y
    refine turn acc i x ys σ H' (fun σ2 v H5 => cPut _ acc ys i (n - i) σ2 v H5) (fun σ2 H4 => cSkip _ ys i (n - i) σ2 H4) hlt hf (s.trans s1) (s1 _ _ hy) x1 (hP _ _ _ _ _ _ s1 P) ?_ ?_
    · intro σ2 v H5 s5 q
      have s15 := s1.trans s5
      unfold cPut
      refine ⟨s15 _ _ hy, fun H6 c6 h6 => ⟨n - (i + 1), by omega, rfl, hlt, by rw [List.length_append]; simp; omega, (s.trans s15).chg hf c6, h6, q H6 c6⟩⟩
    · intro σ2 H5 s5 q
      have s15 := s1.trans s5
      unfold cSkip
      exact ⟨n - (i + 1), by omega, rfl, hlt, by omega, s.trans s15, s15 _ _ hy, q⟩
  · have e : i = n := by omega
    subst e
    exact .inl ⟨w.stop H s, fin acc ys σ H hf s hy P⟩
end
end L2

set_option Elab.async false
set_option linter.all false
set_option maxRecDepth 100000
set_option maxHeartbeats 2000000
/-! ### zip over three lists: iterators at n, n + 1, n + 2, what is walked at n + 3, what is told at n + 4, the zip at n + 5 -/
namespace PySem
open Sem (wp)
namespace F
end F
section
variable {prog : Program} {w : World} {A : Around} {E : Value → Shared → Prop} {s : Shared}
end
section
variable {prog : Program} {w : World} {A : Around} {E : Value → Shared → Prop} {s : Shared}
end
end PySem

set_option Elab.async false
set_option linter.all false
set_option maxRecDepth 100000
set_option maxHeartbeats 2000000
namespace L2
open PySem PySem.Spec PyProof.Rows
/-! ### zip over three lists of one length -/
section
variable {X : Cx} {K : PySem.W.Frag}
end
section
variable {K : PySem.W.Frag} {H : Hp} {R : It → Hp → Prop}
end
end L2

set_option Elab.async false
set_option linter.all false
set_option maxRecDepth 100000
set_option maxHeartbeats 2000000
namespace L2
open PySem PySem.Spec PyProof.Rows
/-! ### xs.pop() -/
section
variable {X : Cx} {K : PySem.W.Frag}
@[irreducible] def rPopA (p : Addr) (H : Hp) (Q : VK) : Prop := ∃ xs y, H p = some (.lst xs) ∧ xs[xs.length - 1]? = some y ∧ ∀ H', Chg p H H' → H' p = some (.lst xs.dropLast) → Q y H'
def rPopM : Addr → List V → Hp → VK → Prop := fun p vs H Q => match vs with
  | [] => rPopA p H Q
  | _ => False
theorem mPop : MtA X "list.pop" rPopM := fun pins s σ H p xs us Q I r h => by
  unfold rPopM at h
  split at h
  · unfold rPopA at h
    obtain ⟨ys, y, h1, h2, h3⟩ := h
    exact mt_pop pins s σ H (.ref p) [] (.ref p) us Q I rfl r ⟨p, ys, y, rfl, rfl, h1, h2, h3 _ Chg.upd upd_same⟩
  · exact h.elim
theorem peM_pop {o : Expr} {to : TE} {apos cpos : Pos} (hK : X.K = K) (ho : PE X o to) (hbase : attributeBase o "pop" X.env (eval o X.env) = eval o X.env := by rfl) (hline : (apos.endLine == cpos.line) = true := by rfl) : PE X (.Call (.Attribute o "pop" apos) [] [] cpos) (qBM0 K rPopM to) := by
  subst hK
  exact peBM0 PySem.F.slot_list_pop PySem.F.type_list_pop mPop ho hbase hline
theorem pop_rd {p : Addr} {H : Hp} {Q : VK} {xs : List V} {y : V} (h : H p = some (.lst xs)) (hy : xs[xs.length - 1]? = some y) (q : ∀ H', Chg p H H' → H' p = some (.lst xs.dropLast) → Q y H') : rPopA p H Q := by unfold rPopA; exact ⟨xs, y, h, hy, q⟩
end
end L2

set_option Elab.async false
set_option linter.all false
set_option maxRecDepth 100000
set_option maxHeartbeats 2000000
namespace L2
open PySem PySem.Spec PyProof.Rows
/-! ### sorted(e), of ints -/
section
variable {X : Cx} {K : PySem.W.Frag}
end
end L2

set_option Elab.async false
set_option linter.all false
set_option maxRecDepth 100000
set_option maxHeartbeats 2000000
namespace L2
open PySem PySem.Spec PyProof.Rows
/-! ### tuple(e) of a list; tuples walked in a comprehension -/
section
variable {X : Cx} {K : PySem.W.Frag}
@[irreducible] def rTupA (K : PySem.W.Frag) (p : Addr) (H : Hp) (Q : VK) : Prop := ∃ ys, SqL K H p ys ∧ ∀ l H', H l = none → Same H H' → H' l = some (.tup ys) → Q (.ref l) H'
def rTupM (K : PySem.W.Frag) : List V → Hp → VK → Prop := fun xs H Q => match xs with
  | [.ref p] => rTupA K p H Q
  | _ => False
theorem cTupK (hK : X.K = K) : CallR X (.type "tuple") (rTupM K) := fun pins s σ H xs us Q I r h => by
  subst hK
  unfold rTupM at h
  split at h
  · unfold rTupA at h
    obtain ⟨ys, h1, h2⟩ := h
    exact call_tuple_of pins s σ H _ us Q I r ⟨_, ys, rfl, .inl ⟨h1, fun l hl => h2 l _ hl (Same.upd hl) upd_same⟩⟩
  · exact h.elim
theorem tupL_rd {p : Addr} {H : Hp} {Q : VK} {ys : List V} (h : SqL K H p ys) (q : ∀ l H', H l = none → Same H H' → H' l = some (.tup ys) → Q (.ref l) H') : rTupA K p H Q := by unfold rTupA; exact ⟨ys, h, q⟩
end
theorem Same.seqT {K : PySem.W.Frag} {H H' : Hp} {a : Addr} {xs : List V} (e : Same H H') (h : H a = some (.tup xs)) : SqT K H' a xs := SqT.of (e _ _ h)
theorem Wk.tup {K : PySem.W.Frag} {a : Addr} {xs : List V} {H1 : Hp} (h : H1 a = some (.tup xs)) : Wk (Itt K a) xs.length H1 fun i x _ => xs[i]? = some x :=
  ⟨fun i H s hi => ⟨xs, xs[i], Same.seqT s h, by simp [hi]⟩, fun H s => ⟨xs, Same.seqT s h, Nat.le_refl _⟩, fun i H x H' s _ y => by
    obtain ⟨e, y⟩ := y
    subst e
    exact ⟨Same.refl _, y xs (Same.seqT s h)⟩⟩
end L2

set_option Elab.async false
set_option linter.all false
set_option maxRecDepth 100000
set_option maxHeartbeats 4000000
namespace L2
open PySem PySem.Spec PyProof.Rows
/-! ### isinstance(x, (C, D)) -/
section
variable {X : Cx} {K : PySem.W.Frag} {H : Hp} {Q : VK}
end
/-! ### list.count of a text among things of all kinds -/
section
variable {X : Cx} {K : PySem.W.Frag}
end
end L2

set_option Elab.async false
set_option linter.all false
set_option maxRecDepth 100000
set_option maxHeartbeats 4000000
namespace L2
open PySem PySem.Spec PyProof.Rows
/-! ### a class of exceptions with an __init__ of its own: it is made -/
section
variable {prog : Program} {w : World} {A : Around} {E : Value → Shared → Prop} {h : Heap} {g : Array GenState} {d : Drawn} {t : Nat} {os : OsState}
variable {nm q : Str} {C N : Addr} {bs bm bmB : List Value} {hdct : Bool} {sn : List Str} {sub : List Value} {ab : Bool} {col : Option Bool} {dd : Option Addr} {k0 k1 k2 k3 k5 : Option Value} {B newId initId : String} {K : PySem.W.Frag}
end
section
variable {prog : Program} {w : World} {A : Around} {E : Value → Shared → Prop} {s : Shared} {env : Env}
variable {nm q : Str} {C N : Addr} {bs bm bmB : List Value} {hdct : Bool} {sn : List Str} {sub : List Value} {ab : Bool} {col : Option Bool} {dd : Option Addr} {k0 k1 k2 k3 k5 : Option Value} {B newId initId : String} {K : PySem.W.Frag}
end
/-! ### its attribute is stored -/
section
open PySem.W
variable {prog : Program} {w : World} {A : Around} {E : Value → Shared → Prop} {s : Shared} {K : Frag}
end
end L2

set_option Elab.async false
set_option linter.all false
set_option maxRecDepth 100000
set_option maxHeartbeats 4000000
namespace L2
open PySem PySem.Spec PyProof.Rows
/-! ### an exception that is being made -/
section
variable {X : Cx} {K : PySem.W.Frag}
/-! ### it is raised -/
section
variable {pins : List (Addr × Obj)} {σ : St} {H : Hp} {s : Shared} {e : Addr} {φ : Heap → Prop}
end
end
end L2

set_option Elab.async false
set_option linter.all false
set_option maxRecDepth 100000
set_option maxHeartbeats 4000000
namespace L2
open PySem PySem.Spec PyProof.Rows
/-! ### a caught exception with a dict: its class, its attribute -/
def ExcIsD (e D d : Addr) (h : Heap) : Prop := ExcIs e (.ref D) (some d) h ∧ ∃ od, h.get? d = some od
section
open PySem.W PySem.Calls
theorem exc_classD {prog : Program} {w : World} {A : Around} {E : Value → Shared → Prop} {K : Frag} {D e dx : Addr} {h : Heap} {g d t os} {Q : Option Value → Shared → Prop} (X : K.In h) (x : ExcIsD e D dx h) (k : ExcK K D)
    (hq : Q (some (.ref D)) ⟨h, g, d, t + 1, os⟩) : wpAny (model prog w) A (getAttr? (.ref e) "__class__") Q E ⟨h, g, d, t, os⟩ := by
  obtain ⟨⟨oe, vs, he, hc, hdx, hd⟩, od, hod⟩ := x
  obtain ⟨h1, h2, h3, h4, h5⟩ := k
  have L0 : Looks (model prog w) h (typeOf (.ref e)) (.ref D) := hc ▸ (Looks.ld he).andThen .now
  have L1 := looks_findIn (M := model prog w) X h1
  have L2 := looks_findIn (M := model prog w) X h2
  have L3 := looks_findIn (M := model prog w) X h3
  have hx : (onTheHeap (Value.ref D) && Value.builtin "BaseException.__getattribute__" == Value.builtin "object.__getattribute__") = false := by
    have z : (Value.builtin "BaseException.__getattribute__" == Value.builtin "object.__getattribute__") = false := by decide +kernel
    rw [z]; rfl
  have I : InstAt h e oe D (some od) := ⟨he, hc, by unfold notCls; rw [hd], by rw [hdx]; exact hod⟩
  have L4 : Looks (model prog w) h (isInstance (.ref e) (.type "BaseException")) true := L0.andThen (looks_subIn X h4)
  have FB := PySem.F.attrBase_ValueError
  have f3 := FB.ga.bind (.ref e)
  have kd : builtinKind "BaseException.__getattribute__" = some .slot := by decide +kernel
  have sid : splitId "BaseException.__getattribute__" = some ("BaseException", "__getattribute__") := by decide +kernel
  have aok := PySem.F.args_bexc_ga (.ref e) (.str "__class__" t)
  have f5 := KF.type_class
  have f6 := PySem.F.slot_gs_get.lookup
  have f7 := PySem.F.slot_gs_set.lookup
  unfold getAttr? getAttrBy? getAttrBy
  refine wpAny_bind (wpAny_mkText (wpAny_bind (wpAny_attempt (wpAny_holding (wpAny_bind (L0.at (wpAny_bind (L1.at ?_))))))))
  dsimp only
  rw [if_neg (by rw [hx]; decide)]
  unfold getAttrByItsOwn hookBefore
  repeat (any_goals (first | assumption | with_reducible refine L0.at ?_ | with_reducible refine L1.at ?_ | with_reducible refine L2.at ?_ | with_reducible refine L3.at ?_ | wp_step))
  refine codeAny_call_builtin FB.ga.plain PySem.F.entry_bexc_ga ?_
  simp only [checkBuiltinCall, kd, sid]
  refine wpAny_bind (L4.at ?_)
  repeat (any_goals (first | assumption | with_reducible refine L0.at ?_ | with_reducible refine L1.at ?_ | with_reducible refine L2.at ?_ | with_reducible refine L3.at ?_ | wp_step))
  refine class_get (ox := oe) (od := some od) X I h5 ?_
  repeat (any_goals (first | assumption | wp_step))
theorem kitx_excD {K : Frag} {e D dx : Addr} (k : ExcK K D) (hcl : (clsIn K D).isSome = true) : KitX K (.ref e) (.ref D) (ExcIsD e D dx) where
  ty := fun M h _ p => by
    obtain ⟨⟨oe, vs, he, hc, _⟩, _⟩ := p
    exact hc ▸ (Looks.ld he).andThen .now
  it := fun M h X p => by
    obtain ⟨cd, hcd⟩ := Option.isSome_iff_exists.mp hcl
    unfold clsIn at hcd
    split at hcd
    · rename_i ho
      intro A' Q' E' s' kk q
      unfold isType loadHead
      exact wpAny_bind (wpAny_loadPart (kk _ _ (X _ _ ho)) (wpAny_pure q))
    · cases hcd
  ne := fun h tp dd its n sl X htp => by
    refine Bool.eq_false_iff.mpr fun q => ?_
    have z : D = tp := Value.ref.inj (beq_iff_eq.mp q)
    subst z
    obtain ⟨cd, hcd⟩ := Option.isSome_iff_exists.mp hcl
    unfold clsIn at hcd
    split at hcd
    · rename_i ho
      cases (X _ _ ho).symm.trans htp
    · cases hcd
  ca := fun {prog w A E Q s} X p q => by
    obtain ⟨hh, g, d, t, os⟩ := s
    exact exc_classD X p k q
end
section
variable {X : Cx} {K : PySem.W.Frag} {H : Hp} {Q : VK}
/-! e.f of a caught exception -/
end
end L2
namespace L2
open PySem PySem.Spec PyProof.Rows
/-! ### short words for a class with an __init__ -/
end L2

set_option Elab.async false
set_option linter.all false
set_option maxRecDepth 100000
set_option maxHeartbeats 2000000
namespace L2
open PySem PySem.Spec PyProof.Rows
/-! ### comprehensions whose target is seen by an inner one: it is a cell -/
def OneCell (x0 : Str) (names : List (Str × NameKind)) : Prop := names.filter (fun y => y.2 == .cell) = [(x0, .cell)] ∧ names.lookup x0 = some .cell
theorem oneCell_go {x0 : Str} : ∀ {names : List (Str × NameKind)}, names.filter (fun y => y.2 == .cell) = [(x0, .cell)] → ∀ (n : Nat) (acc : List (Str × Addr)) (h : Heap), cellsFrom n names acc = (x0, n) :: acc ∧ pushCells h names = h.push { cls := .type "cell", data := .cell none }
  | [], e, _, _, _ => by cases e
  | (y, k) :: r, e, n, acc, h => by
    by_cases hk : (k == NameKind.cell) = true
    · have hk' : k = .cell := by simpa using hk
      subst hk'
      rw [List.filter_cons_of_pos (by simp)] at e
      have e1 : y = x0 := by have := congrArg (fun l => l.head?.map (·.1)) e; simpa using this
      have e2 : r.filter (fun y => y.2 == .cell) = [] := by have := congrArg List.tail e; simpa using this
      subst e1
      have none : ∀ (r : List (Str × NameKind)), r.filter (fun y => y.2 == .cell) = [] → ∀ n acc h, cellsFrom n r acc = acc ∧ pushCells h r = h := by
        intro r
        induction r with
        | nil => intro _ n acc h; exact ⟨rfl, rfl⟩
        | cons z r ih =>
          obtain ⟨z1, z2⟩ := z
          intro e n acc h
          by_cases hz : (z2 == NameKind.cell) = true
          · rw [List.filter_cons_of_pos (by simpa using hz)] at e; cases e
          · rw [List.filter_cons_of_neg (by simpa using hz)] at e
            unfold cellsFrom pushCells
            rw [if_neg hz, if_neg hz]
            exact ih e n acc h
      unfold cellsFrom pushCells
      rw [if_pos hk, if_pos hk]
      exact ⟨(none r e2 _ _ h).1, (none r e2 0 [] _).2⟩
    · rw [List.filter_cons_of_neg (by simpa using hk)] at e
      unfold cellsFrom pushCells
      rw [if_neg hk, if_neg hk]
      exact oneCell_go e n acc h
theorem OneCell.only {x0 : Str} {names : List (Str × NameKind)} (h : OneCell x0 names) : ∀ y ∈ names, y.2 = .cell → y.1 = x0 := fun y hy hc => by
  have : y ∈ names.filter (fun y => y.2 == .cell) := List.mem_filter.mpr ⟨hy, by rw [hc]; rfl⟩
  rw [h.1] at this
  rw [List.mem_singleton.mp this]
theorem newEnv1 {M : Model} {A : Around} {E : Value → Shared → Prop} {s : Shared} {x0 : Str} {scope : Scope} {globals : Addr} {cl : List (Str × Addr)} {qual : Str} {env : Env} {Q : Env → Shared → Prop} (hone : OneCell x0 scope.names)
    (hQ : ∀ h₁, h₁ = (s.heap.push { cls := .type "dict", data := .dict #[] }).push { cls := .type "cell", data := .cell none } → Q { scope, locals := s.heap.objs.size, globals, cells := (x0, s.heap.objs.size + 1) :: cl, qual, func := none, code := env.code, frame := env.frame, builtins := env.builtins } { s with heap := h₁ }) :
    wpAny M A (newFunctionEnv scope globals cl [] qual none .none (some env)) Q E s := by
  simp only [newFunctionEnv, Option.isSome_some, if_true]
  refine wpAny_bind (wpAny_alloc ?_)
  refine wpAny_bind (wpAny_layCells _ (fun name kind cells => by cases hkc : kind == NameKind.cell <;> simp [hkc]) _ _ _ _ ?_)
  have o := oneCell_go hone.1 (s.heap.push { cls := .type "dict", data := .dict #[] }).objs.size cl (s.heap.push { cls := .type "dict", data := .dict #[] })
  rw [show ({ s with heap := s.heap.push { cls := .type "dict", data := .dict #[] } } : Shared).heap = s.heap.push { cls := .type "dict", data := .dict #[] } from rfl, o.1, o.2]
  rw [Heap.size_push]
  refine wpAny_bind ?_
  rw [List.forIn_nil]
  exact wpAny_pure (wpAny_pure (hQ _ rfl))
def blk1 (x0 : Str) (X : Cx) (N : List Str) (scope : Scope) (cl : List (Str × Addr)) (C : Addr) (s3 : Shared) (H3 : Hp) (fp : List Addr) : Cx :=
  { X with N := N, s₀ := s3, H₀ := H3, env := compEnvC scope ((x0, C + 1) :: cl) C X.env, outer := X.stack, ex := fp, fn := fun x => x == x0, pn := [], xe := fun _ _ => False }
theorem cells1 {x0 x : Str} {n c : Addr} {cl : List (Str × Addr)} (h : List.lookup x ((x0, n) :: cl) = some c) : (x = x0 ∧ c = n) ∨ cl.lookup x = some c := by
  rw [List.lookup_cons] at h
  cases hx : x == x0 with
  | true => rw [hx] at h; cases h; exact .inl ⟨by simpa using hx, rfl⟩
  | false => rw [hx] at h; exact .inr h
theorem relabel_kind1 {env : Env} {x0 : Str} : ∀ {names : List (Str × NameKind)} {x : Str} {k' : NameKind}, (∀ y ∈ names, y.2 = .cell → y.1 = x0) → (k' = .cell ∨ k' = .free) →
    (names.map fun (n, k) => if (k == NameKind.free && env.scope.kind == .function && env.kindOf n == some .cell) then (n, NameKind.cell) else (n, k)).lookup x = some k' → x = x0 ∨ ∃ y ∈ names, y.1 = x ∧ y.2 = .free
  | [], _, _, _, _, h => by simp at h
  | (n, k) :: r, x, k', hn, hk, h => by
    have ih := @relabel_kind1 env x0 r x k' (fun y hy => hn y (List.mem_cons_of_mem _ hy)) hk
    replace h : List.lookup x ((if (k == NameKind.free && env.scope.kind == .function && env.kindOf n == some .cell) = true then (n, NameKind.cell) else (n, k)) :: List.map (fun (n, k) => if (k == NameKind.free && env.scope.kind == .function && env.kindOf n == some .cell) then (n, NameKind.cell) else (n, k)) r) = some k' := h
    cases hx : x == n with
    | true =>
      have hx' : x = n := by simpa using hx
      by_cases hf : k = .free
      · exact .inr ⟨(n, k), List.mem_cons_self, hx'.symm, hf⟩
      · have hc : ¬ (k == NameKind.free && env.scope.kind == .function && env.kindOf n == some .cell) = true := by
          have : (k == NameKind.free) = false := by simpa using hf
          rw [this]; simp
        rw [if_neg hc] at h
        simp only [List.lookup_cons, hx] at h
        have : k = k' := Option.some.inj h
        subst this
        rcases hk with hk | hk
        · exact .inl (hx'.trans (hn (n, k) List.mem_cons_self hk))
        · exact absurd hk hf
    | false =>
      have h' : List.lookup x (List.map (fun (n, k) => if (k == NameKind.free && env.scope.kind == .function && env.kindOf n == some .cell) then (n, NameKind.cell) else (n, k)) r) = some k' := by
        by_cases hc : (k == NameKind.free && env.scope.kind == .function && env.kindOf n == some .cell) = true
        · rw [if_pos hc] at h; simp only [List.lookup_cons, hx] at h; exact h
        · rw [if_neg hc] at h; simp only [List.lookup_cons, hx] at h; exact h
      rcases ih h' with q | ⟨y, hy, h1, h2⟩
      · exact .inl q
      · exact .inr ⟨y, List.mem_cons_of_mem _ hy, h1, h2⟩
section
variable {X : Cx} {pins : List (Addr × Obj)} {σ : St} {H : Hp} {s2 : Shared}
theorem blk_inv1 {x0 : Str} {N : List Str} {scope : Scope} {cl : List (Str × Addr)} {C : Addr} {s3 s4 : Shared} {H3 : Hp} {fp : List Addr} {σc : St} (I : Inv X pins σ H3 s3)
    (hcl1 : ∀ x c, cl.lookup x = some c → X.env.cells.lookup x = some c) (hcl2 : ∀ x ∈ scope.names, x.2 = .free → ∃ c, cl.lookup x.1 = some c) (hkind : scope.kind = .function) (hone : OneCell x0 scope.names)
    (hcap : ∀ (i : Nat) (x : Str) (v : V), N[i]? = some x → σc[i]? = some (some v) → ∃ j : Nat, X.N[j]? = some x ∧ σ[j]? = some (some v) ∧ scope.names.lookup x = some .free ∧ (X.env.kindOf x = some .cell ∨ X.env.kindOf x = some .free))
    (hlen : σc.length = N.length) (hC : s3.heap.objs.size = C) (hfp : ∀ b ∈ fp, FpOk X pins H3 b) (hfpl : ∀ b ∈ fp, b < C) (hex : ∀ b o, X.base.get? b = some o → b ∉ fp) (hns : ∃ m, s4.heap.Ns C m) (hce : s4.heap.IsCell (C + 1) none) (hk : ∀ b o, s3.heap.get? b = some o → s4.heap.get? b = some o) (h4 : s4.os = s3.os) (h5 : s4.gens = s3.gens) :
    Inv (blk1 x0 X N scope cl C s3 H3 fp) [] σc H3 s4 := by
  subst hC
  have cne : ∀ x c, cl.lookup x = some c → c < s3.heap.objs.size := fun x c h => by
    obtain ⟨v, o, ho, _⟩ := I.cell x c (hcl1 x c h)
    exact Heap.lt_size ho
  refine ⟨⟨I.ok.mod, ?_, I.ok.glob, I.ok.blt, Nat.le_refl _, fun x y c h1 h2 => ?_, fun x hx => ?_, fun x c hf h => ?_, I.ok.hd, I.ok.frames, .inl rfl, fun b hb => ⟨Nat.ne_of_lt (hfpl b hb), fun x c h => ?_⟩, fun b o e => I.bs b o e, Nat.le_trans I.ok.bsz I.sz, fun b o e => hex b o e, fun b hb => ?_, I.stack, I.stkFree⟩,
    h4, by rw [h5]; exact I.bare, Un.kept hk, ?_, fun x c h => ?_, I.hok.fresh (Nat.le_refl _), fun x c h => ?_, fun p hp => (by cases hp), I.hok.kept hk, hlen⟩
  · exact hkind
  · rcases cells1 h1 with ⟨e1, e2⟩ | h1'
    · rcases cells1 h2 with ⟨e3, _⟩ | h2'
      · rw [e1, e3]
      · exact absurd (Nat.lt_trans (Nat.lt_succ_self _) (e2 ▸ cne _ _ h2')) (Nat.lt_irrefl _)
    · rcases cells1 h2 with ⟨e3, e4⟩ | h2'
      · exact absurd (Nat.lt_trans (Nat.lt_succ_self _) (e4 ▸ cne _ _ h1')) (Nat.lt_irrefl _)
      · exact I.ok.inj x y c (hcl1 _ _ h1') (hcl1 _ _ h2')
  · have hx' : (relabel scope X.env).names.lookup x = some .cell ∨ (relabel scope X.env).names.lookup x = some .free := hx
    show ∃ c, List.lookup x ((x0, s3.heap.objs.size + 1) :: cl) = some c
    by_cases e0 : x = x0
    · subst e0; exact ⟨_, List.lookup_cons_self⟩
    · have hz : x = x0 ∨ ∃ y ∈ scope.names, y.1 = x ∧ y.2 = .free := by
        rcases hx' with q | q
        · exact relabel_kind1 hone.only (.inl rfl) q
        · exact relabel_kind1 hone.only (.inr rfl) q
      rcases hz with hz | ⟨y, hy, rfl, hf⟩
      · exact absurd hz e0
      · obtain ⟨c, hc⟩ := hcl2 y hy hf
        exact ⟨c, by rw [List.lookup_cons, beq_eq_false_iff_ne.mpr e0]; exact hc⟩
  · have hf : (x == x0) = true := hf
    have e0 : x = x0 := by simpa using hf
    subst e0
    rcases cells1 h with ⟨_, rfl⟩ | h'
    · exact Nat.le_succ _
    · have h : List.lookup x ((x, s3.heap.objs.size + 1) :: cl) = some c := h
      rw [List.lookup_cons, hf] at h
      cases h
      exact Nat.le_succ _
  · rcases cells1 h with ⟨_, rfl⟩ | h
    · exact Nat.ne_of_gt (Nat.lt_succ_of_lt (hfpl b hb))
    · exact (hfp b hb).2.2.2.2.1 x c (hcl1 x c h)
  · intro hz
    obtain ⟨f0, f1, f2, _⟩ := hfp b hb
    have hz : b ∈ frs X.stack := hz
    rcases List.mem_cons.mp (I.stkSub b hz) with q | q
    · exact f1 q
    · exact f2 q
  · obtain ⟨m, hm⟩ := hns
    refine ⟨m, hm, fun i x v h1 h2 h3 => ?_⟩
    obtain ⟨j, e1, e2, e3, e4⟩ := hcap i x v h1 h2
    obtain ⟨mX, _, hl⟩ := I.loc
    obtain ⟨u, r, q⟩ := hl j x v e1 e2 (by rcases e4 with e4 | e4; exact .inr (.inl e4); exact .inr (.inr e4))
    have n0 : x ≠ x0 := fun z => by rw [z, hone.2] at e3; cases e3
    refine ⟨u, r, .inr ⟨relabel_free e3, ?_⟩⟩
    obtain ⟨c, hc⟩ := hcl2 (x, .free) (PySem.mem_of_lookup e3) rfl
    refine ⟨c, by show List.lookup x ((x0, s3.heap.objs.size + 1) :: cl) = some c; rw [List.lookup_cons, beq_eq_false_iff_ne.mpr n0]; exact hc, ?_⟩
    have hc' := hcl1 x c hc
    rcases q with ⟨k, _⟩ | ⟨_, c2, e5, o, ho, hd⟩
    · rcases e4 with e4 | e4 <;> rw [e4] at k <;> cases k
    · rw [hc'] at e5
      cases e5
      exact ⟨o, hk _ _ ho, hd⟩
  · rcases cells1 h with ⟨_, rfl⟩ | h
    · exact ⟨none, hce⟩
    · obtain ⟨v, o, ho, hd⟩ := I.cell x c (hcl1 x c h)
      exact ⟨v, o, hk _ _ ho, hd⟩
  · rcases cells1 h with ⟨_, rfl⟩ | h
    · exact I.hok.fresh (Nat.le_succ _)
    · exact I.freeC x c (hcl1 _ _ h)
theorem comp_core1 {x0 : Str} {E : Value → Shared → Prop} {elt tg iter : Expr} {ifs : List Expr} {scope : Scope} {pos : Pos} {cl : List (Str × Addr)} {N : List Str} {σc : St} {J : It} {fp : List Addr} {it : Addr} {tn : Nat → Heap → Prop} {g : TG} {tt : TT} {te : TE} {Q : VK}
    {RR : Value → Addr → Result → Shared → Prop}
    (hcl1 : ∀ x c, cl.lookup x = some c → X.env.cells.lookup x = some c) (hcl2 : ∀ x ∈ scope.names, x.2 = .free → ∃ c, cl.lookup x.1 = some c) (hkind : scope.kind = .function) (hone : OneCell x0 scope.names)
    (hcap : ∀ (i : Nat) (x : Str) (v : V), N[i]? = some x → σc[i]? = some (some v) → ∃ j : Nat, X.N[j]? = some x ∧ σ[j]? = some (some v) ∧ scope.names.lookup x = some .free ∧ (X.env.kindOf x = some .cell ∨ X.env.kindOf x = some .free))
    (hlen : σc.length = N.length) (hc : X.calm = true) (I : Inv X pins σ H s2) (T : Turn X.prog X.w X.K tg J fp it tn) (st : tn 0 s2.heap) (fpok : ∀ b ∈ fp, FpOk X pins H b)
    (hg : ∀ C s3 H3 fp, PG (blk1 x0 X N scope cl C s3 H3 fp) tg g) (ht : ∀ C s3 H3 fp, PTs (blk1 x0 X N scope cl C s3 H3 fp) ifs tt) (he : ∀ C s3 H3 fp, PE (blk1 x0 X N scope cl C s3 H3 fp) elt te)
    (h : compW J g tt te σc H Q)
    (hRR : ∀ (acc C : Addr) (H' : Hp) (s' : Shared), Inv X pins σ H' s' → FpOk X pins H' C → (∃ m, s'.heap.Ns C m) → Q (.ref acc) H' → RR (.ref acc) C (.ok .next) s') :
    wpAny (model X.prog X.w) X.A (newList []) (fun acc s₃ => wpAny (model X.prog X.w) X.A (newFunctionEnv scope X.env.globals cl [] X.env.qual none .none (some X.env)) (fun cenv s₄ =>
      codeAny (model X.prog X.w) X.A (.compStart (.ListComp elt [⟨tg, iter, ifs, 0⟩] scope pos) 0 (.ref it) acc { cenv with scope := relabel scope X.env }) (RR acc cenv.locals) s₄) E s₃) E s2 := by
  refine wpAny_newObj_type (newEnv1 hone fun h₁ hh₁ => ?_)
  dsimp only at hh₁ ⊢
  have hf : H s2.heap.objs.size = none := I.fresh
  have I3 : Inv X pins σ (upd H s2.heap.objs.size (.lst [])) { s2 with heap := s2.heap.push { cls := .type "list", data := .seq ([] : List Value).toArray } } := I.lnew (t' := s2.toks) (its := []) .nil (Nat.zero_le _)
  generalize hs3 : ({ s2 with heap := s2.heap.push { cls := .type "list", data := .seq ([] : List Value).toArray } } : Shared) = s3 at I3
  have hH : s2.heap.push { cls := .type "list", dict := none, data := .seq ([] : List Value).toArray } = s3.heap := by rw [← hs3]
  rw [hH] at hh₁ ⊢
  have hsz : s3.heap.objs.size = s2.heap.objs.size + 1 := by rw [← hH, Heap.size_push]
  have old23 : ∀ b o, s2.heap.get? b = some o → s3.heap.get? b = some o := fun b o e => by rw [← hH]; exact Heap.get?_push_of_some _ e
  have fplt : ∀ b ∈ fp, b < s2.heap.objs.size := fun b hb => by
    obtain ⟨o, e, _⟩ := T.obj 0 _ st b hb
    exact Heap.lt_size e
  have fp3 : ∀ b ∈ fp, FpOk X pins (upd H s2.heap.objs.size (.lst [])) b := fun b hb => by
    obtain ⟨f0, f1⟩ := fpok b hb
    refine ⟨?_, f1⟩
    rw [upd_ne (Nat.ne_of_lt (fplt b hb))]
    exact f0
  have old34 : ∀ b o, s3.heap.get? b = some o → h₁.get? b = some o := fun b o e => by rw [hh₁]; exact Heap.get?_push_of_some _ (Heap.get?_push_of_some _ e)
  have hns₁ : h₁.Ns s3.heap.objs.size (fun _ => none) := by rw [hh₁]; exact (Heap.Ns.new s3.heap (.type "dict")).keeps fun b o e => Heap.get?_push_of_some _ e
  have hce : h₁.IsCell (s3.heap.objs.size + 1) none := ⟨{ cls := .type "cell", data := .cell none }, by rw [hh₁]; exact Heap.get?_push_at (by rw [Heap.size_push]) rfl, rfl⟩
  have nob : ∀ b o, X.base.get? b = some o → b ∉ fp := fun b o e hb => by
    obtain ⟨_, _, _, f3, _, _⟩ := fpok b hb
    rcases f3 with f3 | f3
    · exact I.ok.noex b o e f3
    · exact absurd (Nat.lt_of_lt_of_le (Heap.lt_size e) I.ok.bsz) (Nat.not_lt.mpr f3)
  have hs4e : ({ s2 with heap := h₁, toks := s2.toks } : Shared).os = s3.os := by rw [← hs3]
  have hs4g : ({ s2 with heap := h₁, toks := s2.toks } : Shared).gens = s3.gens := by rw [← hs3]
  have I4 : Inv (blk1 x0 X N scope cl s3.heap.objs.size s3 (upd H s2.heap.objs.size (.lst [])) fp) [] σc (upd H s2.heap.objs.size (.lst [])) { s2 with heap := h₁, toks := s2.toks } :=
    blk_inv1 (s4 := { s2 with heap := h₁, toks := s2.toks }) I3 hcl1 hcl2 hkind hone hcap hlen rfl fp3 (fun b hb => Nat.lt_of_lt_of_le (fplt b hb) (by rw [hsz]; exact Nat.le_succ _)) nob ⟨_, hns₁⟩ hce old34 hs4e hs4g
  have st4 : tn 0 h₁ := T.keep _ _ _ st fun b hb o e => old34 b o (old23 b o e)
  unfold compW at h
  obtain ⟨W, ⟨m0, w0⟩, turn⟩ := h s2.heap.objs.size _ hf (Same.upd hf) upd_same
  have loop : codeAny (model X.prog X.w) X.A (.compLoop (.ListComp elt [⟨tg, iter, ifs, 0⟩] scope pos) 0 (.ref it) (.ref s2.heap.objs.size) (blk1 x0 X N scope cl s3.heap.objs.size s3 (upd H s2.heap.objs.size (.lst [])) fp).env)
      (RR (.ref s2.heap.objs.size) s3.heap.objs.size) { s2 with heap := h₁, toks := s2.toks } := by
    refine comp_loop (fun n s' => ∃ i ys σ' H', Inv (blk1 x0 X N scope cl s3.heap.objs.size s3 (upd H s2.heap.objs.size (.lst [])) fp) [] σ' H' s' ∧ tn i s'.heap ∧ (∀ b ∈ fp, H' b = none) ∧ W i n ys σ' H') ?_ m0 ⟨0, [], σc, _, I4, st4, fun b hb => (fp3 b hb).1, w0⟩
    rintro n s5 ⟨i, ys, σ5, H5, I5, st5, fr5, w5⟩
    obtain ⟨hacc, hl5, hcase⟩ := turn i n ys σ5 H5 w5
    have stat : ∀ {H' : Hp}, (∀ b ∈ fp, H' b = none) → ∀ b ∈ fp, FpOk (blk1 x0 X N scope cl s3.heap.objs.size s3 (upd H s2.heap.objs.size (.lst [])) fp) [] H' b := fun hn b hb => by
      obtain ⟨_, f1, f2, f3, f4, _⟩ := fpok b hb
      refine ⟨hn b hb, Nat.ne_of_lt (Nat.lt_of_lt_of_le (fplt b hb) (by rw [hsz]; exact Nat.le_succ _)), fun hz => ?_, .inl hb, fun x c hx => ?_, fun p hp => by cases hp⟩
      rotate_left
      · rcases cells1 hx with ⟨_, rfl⟩ | hx
        · exact Nat.ne_of_gt (Nat.lt_succ_of_lt (Nat.lt_of_lt_of_le (fplt b hb) (by rw [hsz]; exact Nat.le_succ _)))
        · exact f4 x c (hcl1 x c hx)
      rcases List.mem_cons.mp (I.stkSub b hz) with q | q
      · exact f1 q
      · exact f2 q
    rcases hcase with ⟨stop, hq⟩ | ⟨go, step⟩
    · refine thn (T.done (blk1 x0 X N scope cl s3.heap.objs.size s3 (upd H s2.heap.objs.size (.lst [])) fp) rfl rfl rfl hc i [] s5 σ5 H5 (fun _ _ => False) I5 (stat fr5) st5 stop) fun r s6 ⟨hr, I6⟩ => ?_
      subst hr
      have u1 : Un (frs X.stack) fp H (upd H s2.heap.objs.size (.lst [])) s2.heap s3.heap := Un.laid old23 (Nat.le_refl _) hf
      have u2 : Un (frs X.stack) fp (upd H s2.heap.objs.size (.lst [])) H5 s3.heap s6.heap := I6.base
      have hC : H5 s3.heap.objs.size = none := I6.free
      obtain ⟨m6, hm6, _⟩ := I6.loc
      have hos : s6.os = s2.os := by rw [I6.os]; show s3.os = s2.os; rw [← hs3]
      have hok6 := I6.hok
      have bare6 := I6.bare
      obtain ⟨hh, gg, dd, tt', os'⟩ := s6
      obtain rfl : os' = s2.os := hos
      exact hRR _ _ H5 _ (I.call (h' := hh) (g' := gg) (d' := dd) (t' := tt') (ch := fp) (u1.trans u2) hok6 bare6 fun b hb => ⟨(fpok b hb).2.2.2.1, (fpok b hb).2.1, (fpok b hb).2.2.2.2.1, (fpok b hb).2.2.2.2.2⟩)
        (I.fpOk (by rw [hsz]; exact Nat.le_succ _) hC) ⟨m6, hm6⟩ hq
    · refine thn (T.item (blk1 x0 X N scope cl s3.heap.objs.size s3 (upd H s2.heap.objs.size (.lst [])) fp) rfl rfl rfl hc i [] s5 σ5 H5 (fun _ _ => False) I5 (stat fr5) st5 go) fun r s6 ⟨u, hr, h6⟩ => ?_
      subst hr
      refine thn h6 fun _ s7 ⟨x, H7, I7, r7, y7, st7, fr7⟩ => ?_
      have I7' := I7.pinned (stat fr7) (T.obj _ _ st7)
      refine thn (hg _ _ _ _ _ s7 σ5 H7 x u _ I7' r7 (step x H7 y7)) fun _ s8 ⟨σ8, H8, I8, q8⟩ => ?_
      refine thn (ht _ _ _ _ _ s8 σ8 H8 _ I8 q8) fun ok s9 ⟨H9, I9, q9⟩ => ?_
      have again : ∀ {s10 : Shared} {σ10 : St} {H10 : Hp} {zs : List V}, Inv (blk1 x0 X N scope cl s3.heap.objs.size s3 (upd H s2.heap.objs.size (.lst [])) fp) ([] ++ pinsAt fp s7.heap) σ10 H10 s10 → (∃ m', m' < n ∧ W (i + 1) m' zs σ10 H10) →
          ∃ m, m < n ∧ ∃ i ys σ' H', Inv (blk1 x0 X N scope cl s3.heap.objs.size s3 (upd H s2.heap.objs.size (.lst [])) fp) [] σ' H' s10 ∧ tn i s10.heap ∧ (∀ b ∈ fp, H' b = none) ∧ W i m ys σ' H' := fun {s10 σ10 H10 zs} I10 ⟨m', hm, w10⟩ => by
        refine ⟨m', hm, i + 1, zs, σ10, H10, I10.unpinned, T.keep _ _ _ st7 fun b hb o e => (I10.pin (b, o) (List.mem_append_right _ (List.mem_append_right _ (mem_pinsAt hb e)))).1, fun b hb => ?_, w10⟩
        obtain ⟨o, e, d⟩ := T.obj _ _ st7 b hb
        exact (I10.pin (b, o) (List.mem_append_right _ (List.mem_append_right _ (mem_pinsAt hb e)))).2.1
      dsimp only at q9
      rw [br_iff] at q9
      cases ok with
      | false =>
        have q9 : ∃ m', m' < n ∧ W (i + 1) m' ys σ8 H9 := by rw [if_neg Bool.false_ne_true] at q9; unfold cSkip at q9; exact q9
        exact again I9 q9
      | true =>
        have q9 := (if_pos rfl ▸ q9 : te σ8 H9 _)
        refine thn (he _ _ _ _ _ s9 σ8 H9 _ I9 q9) fun v s10 ⟨y, H10, I10, r10, q10⟩ => ?_
        unfold cPut at q10
        obtain ⟨e10, q10⟩ := q10
        refine thn (mt_append _ s10 σ8 H10 (.ref s2.heap.objs.size) [y] (.ref s2.heap.objs.size) [v] (fun _ H11 => ∃ m', m' < n ∧ W (i + 1) m' (ys ++ [y]) σ8 H11) I10 rfl (.cons r10 .nil) ⟨_, ys, y, rfl, rfl, e10, hl5, q10 _ Chg.upd upd_same⟩) fun _ s11 ⟨z, H11, I11, _, q11⟩ => ?_
        exact again I11 q11
  exact codeAny_compStart_list loop (T.self _ 0 _ _ _ st4 loop)
def scopeB1 (x0 : Str) (scope : Scope) : Bool := scope.names.filter (fun y => y.2 == .cell) == [(x0, .cell)] && scope.names.lookup x0 == some .cell && scope.names.all fun x => x.2 != .local || scope.names.lookup x.1 == some .local
theorem scopeB1_ok {x0 : Str} {scope : Scope} (h : scopeB1 x0 scope = true) : OneCell x0 scope.names ∧ ∀ x ∈ scope.names, x.2 = .local → scope.names.lookup x.1 = some .local := by
  unfold scopeB1 at h
  rw [Bool.and_eq_true, Bool.and_eq_true] at h
  refine ⟨⟨by simpa using h.1.1, by simpa using h.1.2⟩, fun x hx hl => ?_⟩
  have := List.all_eq_true.mp h.2 x hx
  simpa [hl] using this
theorem peComp1 {x0 : Str} {elt tg iter : Expr} {ifs : List Expr} {scope : Scope} {pos : Pos} {N : List Str} {ks : List (Option Nat)} {wi : TI} {g : TG} {tt : TT} {te : TE} (hi : PI X tg iter wi)
    (hg : ∀ cl C s3 H3 fp, PG (blk1 x0 X N scope cl C s3 H3 fp) tg g) (ht : ∀ cl C s3 H3 fp, PTs (blk1 x0 X N scope cl C s3 H3 fp) ifs tt) (he : ∀ cl C s3 H3 fp, PE (blk1 x0 X N scope cl C s3 H3 fp) elt te) (hcap : CapOk X scope N ks)
    (hc : X.calm = true := by rfl) (hkind : scope.kind = .function := by rfl) (hb : freeB scope X.env.kindOf = true := by rfl) (hn : scopeB1 x0 scope = true := by rfl) (hs : ∀ x, foldedSetIterable iter X.env x = pure x := by intro _; rfl) :
    PE X (.ListComp elt [⟨tg, iter, ifs, 0⟩] scope pos) (qComp ks wi g tt te) := by
  intro pins s σ H Q I h
  obtain ⟨hone, hnames⟩ := scopeB1_ok hn
  obtain ⟨cl, hcl, hcl1, hcl2⟩ := closure_ok (scope := scope) (env := X.env) fun x hx hf => I.ok.has x.1 (freeB_ok hb x hx hf)
  rw [eval_ListComp]
  refine wpAny_comprehension_free (use := none) rfl hs hcl hkind hnames ?_
  show wpAny _ _ (eval iter X.env) _ _ s
  refine thn (hi pins s σ H _ I h) fun v s1 h1 => thn h1 fun itv s2 h2 => ?_
  obtain ⟨it, fp, tn, J, H2, e, I2, T, st2, f2, q2⟩ := h2
  subst e
  refine comp_core1 (RR := fun acc C => compPost (model X.prog X.w) X.A X.xe none (EP X pins σ Q) acc C) hcl1 hcl2 hkind hone (hcap.cap σ) (hcap.len σ) hc I2 T st2 f2 (hg cl) (ht cl) (he cl) q2 ?_
  rintro acc C H' s' I' hC ⟨m, hm⟩ hq
  refine ⟨m, hm, fun h' hsb => ⟨.ref acc, H', ?_, rfl, hq⟩⟩
  exact I'.turned (t' := s'.toks) (fun b o hb e => hsb.extBut b o hb e) hC.1 hC.2.1 hC.2.2.2.1 hC.2.2.2.2.1 hC.2.2.2.2.2
end
end L2

set_option Elab.async false
set_option linter.all false
set_option maxRecDepth 100000
set_option maxHeartbeats 1000000
namespace L2
open PySem PySem.Spec PyProof.Rows

/-! ### lists of pairs as tables -/
section
variable {κ : Type} [DecidableEq κ]
def valV (kvs : List (κ × V)) (k : κ) : Option V := (kvs.find? fun kv => decide (kv.1 = k)).map (·.2)
/-- in its place, or at the end -/
def putK (kvs : List (κ × V)) (k : κ) (v : V) : List (κ × V) :=
  if (kvs.any fun kv => decide (kv.1 = k)) = true then kvs.map (fun kv => if kv.1 = k then (kv.1, v) else kv) else kvs ++ [(k, v)]
theorem valV_pos {p : κ × V} {r : List (κ × V)} {k : κ} (e : p.1 = k) : valV (p :: r) k = some p.2 := by simp [valV, List.find?_cons, e]
theorem valV_neg {p : κ × V} {r : List (κ × V)} {k : κ} (e : ¬ p.1 = k) : valV (p :: r) k = valV r k := by simp [valV, List.find?_cons, e]
theorem valV_any (k : κ) : ∀ kvs : List (κ × V), (kvs.any fun kv => decide (kv.1 = k)) = (valV kvs k).isSome
  | [] => rfl
  | p :: r => by
    rw [List.any_cons]
    by_cases e : p.1 = k
    · simp only [valV_pos e, decide_eq_true e, Bool.true_or, Option.isSome_some]
    · rw [valV_neg e, decide_eq_false e, Bool.false_or]; exact valV_any k r
theorem length_putK (kvs : List (κ × V)) (k : κ) (v : V) : (putK kvs k v).length ≤ kvs.length + 1 := by
  unfold putK
  split
  · rw [List.length_map]; omega
  · rw [List.length_append, List.length_cons, List.length_nil]; omega
theorem RelO.isSome_eq {o : Option V} {u : Option Value} (r : RelO o u) : o.isSome = u.isSome := by
  cases o with
  | none => cases u with
    | none => rfl
    | some _ => exact (show False from r).elim
  | some _ => cases u with
    | none => exact (show False from r).elim
    | some _ => rfl
theorem RelO.getD {o : Option V} {u : Option Value} {d : V} {d' : Value} (r : RelO o u) (rd : RelV d d') : RelV (o.getD d) (u.getD d') := by
  cases o with
  | none => cases u with
    | none => exact rd
    | some _ => exact (show False from r).elim
  | some _ => cases u with
    | none => exact (show False from r).elim
    | some _ => exact r

/-- raw tables of the same keys -/
theorem KV.val {kvs : List (κ × V)} {vs : List (κ × Value)} (r : KV kvs vs) (k : κ) : RelO (valV kvs k) (valueAt vs k) := by
  unfold KV at r
  induction r with
  | nil => exact True.intro
  | @cons p q ps qs h t ih =>
    obtain ⟨h1, h2⟩ := h
    by_cases e : p.1 = k
    · have e' : q.1 = k := h1.symm.trans e
      have b : valueAt (q :: qs) k = some q.2 := by simp [valueAt, List.find?_cons, e']
      rw [valV_pos e, b]; exact h2
    · have e' : ¬ q.1 = k := fun z => e (h1.trans z)
      have b : valueAt (q :: qs) k = valueAt qs k := by simp [valueAt, List.find?_cons, e']
      rw [valV_neg e, b]; exact ih
theorem KV.any {kvs : List (κ × V)} {vs : List (κ × Value)} (r : KV kvs vs) (k : κ) : (kvs.any fun kv => decide (kv.1 = k)) = vs.any fun kv => decide (kv.1 = k) := by
  unfold KV at r
  induction r with
  | nil => rfl
  | cons h t ih => rw [List.any_cons, List.any_cons, ih, h.1]
theorem KV.repl {kvs : List (κ × V)} {vs : List (κ × Value)} (r : KV kvs vs) (k : κ) {y : V} {u : Value} (ry : RelV y u) :
    KV (kvs.map fun kv => if kv.1 = k then (kv.1, y) else kv) (vs.map fun kv => if kv.1 = k then (kv.1, u) else kv) := by
  unfold KV at r ⊢
  induction r with
  | nil => exact .nil
  | @cons p q ps qs h t ih =>
    rw [List.map_cons, List.map_cons]
    refine .cons ?_ ih
    obtain ⟨h1, h2⟩ := h
    by_cases e : p.1 = k
    · rw [if_pos e, if_pos (h1.symm.trans e)]; exact ⟨h1, ry⟩
    · rw [if_neg e, if_neg (fun z => e (h1.trans z))]; exact ⟨h1, h2⟩
theorem KV.put {kvs : List (κ × V)} {vs : List (κ × Value)} (r : KV kvs vs) (k : κ) {y : V} {u : Value} (ry : RelV y u) : KV (putK kvs k y) (stored vs k u) := by
  unfold putK stored
  rw [r.any k]
  by_cases e : (vs.any fun kv => decide (kv.1 = k)) = true
  · rw [if_pos e, if_pos e]; exact r.repl k ry
  · rw [if_neg e, if_neg e]; exact Paired.snoc r ⟨rfl, ry⟩
theorem KV.length {kvs : List (κ × V)} {vs : List (κ × Value)} (r : KV kvs vs) : kvs.length = vs.length := Paired.length r
end


/-! ### a tracked dict, its keys ints and texts or tuples of these -/
theorem kV_is {P : Program} {w : World} {k : Key} {u : Value} (r : RelV (kV k) u) : (mixKind P w).is k u = true := by
  cases k with
  | inl i => obtain ⟨t, e⟩ := (show ∃ t, u = Value.int i t from r); subst e; exact mixKind_int P w i t
  | inr x => obtain ⟨t, e⟩ := (show ∃ t, u = Value.str x t from r); subst e; exact mixKind_str P w x t
theorem items_are {P : Program} {w : World} : ∀ {ks : List Key} {us : List Value}, Vals (ks.map kV) us → ItemsAre (mixKind P w) ks us
  | [], _, r => by rw [List.map_nil] at r; cases r; exact .nil
  | k :: ks, _, r => by
    rw [List.map_cons] at r
    cases r with
    | cons h t => exact .cons (kV_is h) (items_are t)

/-- raw entries of a dict with tuple keys -/
abbrev KT (H : Hp) : List (List Key × V) → List (List Key × Addr × Value) → Prop := Paired fun p q => p.1 = q.1 ∧ H q.2.1 = some (.tup (p.1.map kV)) ∧ RelV p.2 q.2.2
theorem KT.val {H : Hp} {kvs : List (List Key × V)} {xs : List (List Key × Addr × Value)} (r : KT H kvs xs) (k : List Key) : RelO (valV kvs k) ((atKey xs k).map (·.2)) := by
  induction r with
  | nil => exact True.intro
  | @cons p q ps qs h t ih =>
    obtain ⟨h1, _, h2⟩ := h
    by_cases e : p.1 = k
    · have e' : q.1 = k := h1.symm.trans e
      have b : atKey (q :: qs) k = some q.2 := by simp [atKey, List.find?_cons, e']
      rw [valV_pos e, b]; exact h2
    · have e' : ¬ q.1 = k := fun z => e (h1.trans z)
      have b : atKey (q :: qs) k = atKey qs k := by simp [atKey, List.find?_cons, e']
      rw [valV_neg e, b]; exact ih
theorem KT.repl {H : Hp} {kvs : List (List Key × V)} {xs : List (List Key × Addr × Value)} (r : KT H kvs xs) (k : List Key) {y : V} {u : Value} (ry : RelV y u) :
    KT H (kvs.map fun kv => if kv.1 = k then (kv.1, y) else kv) (xs.map (putAt k u)) := by
  induction r with
  | nil => exact .nil
  | @cons p q ps qs h t ih =>
    rw [List.map_cons, List.map_cons]
    refine .cons ?_ ih
    obtain ⟨h1, h2, h3⟩ := h
    unfold putAt
    by_cases e : p.1 = k
    · rw [if_pos e, if_pos (h1.symm.trans e)]; exact ⟨h1, h2, ry⟩
    · rw [if_neg e, if_neg (fun z => e (h1.trans z))]; exact ⟨h1, h2, h3⟩
theorem KT.put {H : Hp} {kvs : List (List Key × V)} {xs : List (List Key × Addr × Value)} (r : KT H kvs xs) (k : List Key) {b : Addr} {y : V} {u : Value} (hb : H b = some (.tup (k.map kV))) (ry : RelV y u) :
    KT H (putK kvs k y) (storedH xs k b u) := by
  have e : (kvs.any fun kv => decide (kv.1 = k)) = (atKey xs k).isSome := by
    rw [valV_any, (r.val k).isSome_eq, Option.isSome_map]
  unfold putK storedH
  rw [e]
  by_cases q : (atKey xs k).isSome = true
  · rw [if_pos q, if_pos q]; exact r.repl k ry
  · rw [if_neg q, if_neg q]; exact Paired.snoc r ⟨rfl, hb, ry⟩
theorem KT.keeps {H H' : Hp} {kvs : List (List Key × V)} {xs : List (List Key × Addr × Value)} (r : KT H kvs xs) (ht : ∀ b ys, H b = some (.tup ys) → H' b = some (.tup ys)) : KT H' kvs xs :=
  Paired.mapP r fun _ _ z => ⟨z.1, ht _ _ z.2.1, z.2.2⟩

section
variable {P : Program} {w : World} {H : Hp} {h : Heap} {a : Addr}
theorem rd_of {u : HO} (ok : HOk P w H h) (e : Rd H a u) : ObjOk P w H h a u := e.ok ok
theorem dk_rd {kvs : List (Key × V)} (ok : HOk P w H h) (e : Rd H a (.dK kvs)) : kvs.length ≤ sizeLine ∧ (a == sysModules) = false ∧ ∃ vs, KV kvs vs ∧ h.DictOf (mixKind P w) a vs :=
  show ObjOk P w H h a (.dK kvs) from rd_of ok e
theorem dk_of {kvs : List (Key × V)} (ok : HOk P w H h) (e : H a = some (.dK kvs)) : kvs.length ≤ sizeLine ∧ (a == sysModules) = false ∧ ∃ vs, KV kvs vs ∧ h.DictOf (mixKind P w) a vs := dk_rd ok (.inl e)
/-- a tracked tuple of ints and texts is a key -/
theorem key_of {ks : List Key} (ok : HOk P w H h) (e : H a = some (.tup (ks.map kV))) : (tupleKind (mixKind P w)).is h ks a := by
  obtain ⟨_, its, r, o, h1, h2, n, h3⟩ := (show ObjOk P w H h a (.tup (ks.map kV)) from ok a _ e)
  exact ⟨o, its.toArray, n, h1, h2, h3, by simpa using items_are r⟩
theorem dt_rd {kvs : List (List Key × V)} (ok : HOk P w H h) (e : Rd H a (.dT kvs)) : kvs.length ≤ sizeLine ∧ (a == sysModules) = false ∧
    ∃ xs, KT H kvs xs ∧ h.DictOfH (tupleKind (mixKind P w)) a xs := by
  obtain ⟨z, y, xs, r, o, es, ep, h1, h2, h3, h4, h5⟩ := (show ObjOk P w H h a (.dT kvs) from rd_of ok e)
  refine ⟨z, y, xs, r, o, es, ep, h1, h2, h3, h4, fun x hx => ?_, h5⟩
  have all : ∀ {l : List (List Key × V)} {m : List (List Key × Addr × Value)}, KT H l m → ∀ x ∈ m, (tupleKind (mixKind P w)).is h x.1 x.2.1 := by
    intro l m q
    induction q with
    | nil => intro x hx; exact nomatch hx
    | @cons p q ps qs hq t ih =>
      intro x hx
      rcases List.mem_cons.mp hx with e | hx
      · subst e
        exact key_of ok (by rw [← hq.1]; exact hq.2.1)
      · exact ih x hx
  exact all r x hx
theorem dt_of {kvs : List (List Key × V)} (ok : HOk P w H h) (e : H a = some (.dT kvs)) : kvs.length ≤ sizeLine ∧ (a == sysModules) = false ∧
    ∃ xs, KT H kvs xs ∧ h.DictOfH (tupleKind (mixKind P w)) a xs := dt_rd ok (.inl e)
end

/-- what the dict at a holds at the key y -/
def DGet (H : Hp) (a : Addr) (y : V) (r : Option V) : Prop :=
  (∃ kvs k, Rd H a (.dK kvs) ∧ y = kV k ∧ r = valV kvs k) ∨ ∃ kvs k b, Rd H a (.dT kvs) ∧ y = .ref b ∧ H b = some (.tup (k.map kV)) ∧ r = valV kvs k
/-- the heap behind a[y] = v -/
def DPut (H : Hp) (a : Addr) (y v : V) (H' : Hp) : Prop :=
  (∃ kvs k, H a = some (.dK kvs) ∧ y = kV k ∧ kvs.length < sizeLine ∧ H' = upd H a (.dK (putK kvs k v))) ∨
  ∃ kvs k b, H a = some (.dT kvs) ∧ y = .ref b ∧ H b = some (.tup (k.map kV)) ∧ kvs.length < sizeLine ∧ H' = upd H a (.dT (putK kvs k v))
theorem DGet.k {H : Hp} {a : Addr} {kvs : List (Key × V)} {k : Key} (e : H a = some (.dK kvs)) : DGet H a (kV k) (valV kvs k) := .inl ⟨kvs, k, .inl e, rfl, rfl⟩
theorem DGet.t {H : Hp} {a b : Addr} {kvs : List (List Key × V)} {k : List Key} (e : H a = some (.dT kvs)) (eb : H b = some (.tup (k.map kV))) : DGet H a (.ref b) (valV kvs k) := .inr ⟨kvs, k, b, .inl e, rfl, eb, rfl⟩
theorem DPut.k {H : Hp} {a : Addr} {kvs : List (Key × V)} {k : Key} {v : V} (e : H a = some (.dK kvs)) (hl : kvs.length < sizeLine) : DPut H a (kV k) v (upd H a (.dK (putK kvs k v))) := .inl ⟨kvs, k, e, rfl, hl, rfl⟩
theorem DPut.t {H : Hp} {a b : Addr} {kvs : List (List Key × V)} {k : List Key} {v : V} (e : H a = some (.dT kvs)) (eb : H b = some (.tup (k.map kV))) (hl : kvs.length < sizeLine) :
    DPut H a (.ref b) v (upd H a (.dT (putK kvs k v))) := .inr ⟨kvs, k, b, e, rfl, eb, hl, rfl⟩


section
variable {X : Cx} {pins : List (Addr × Obj)} {σ : St} {H : Hp} {s : Shared} {a : Addr} {y v : V} {u r : Value} {o : Option V} {A : Around} {E : Value → Shared → Prop}

theorem Inv.big (I : Inv X pins σ H s) : sysModules < s.heap.objs.size := by
  have h : mainGlobals < s.heap.objs.size := (I.mod.glob.keeps I.bk).lt
  exact Nat.lt_trans (by decide) h

/-- d[y], there -/
theorem d_getItem {Q : Value → Shared → Prop} (hu : A.units + 1 < cLine) (I : Inv X pins σ H s) (g : DGet H a y (some v)) (ry : RelV y u) (h : ∀ w' s', Inv X pins σ H s' → RelV v w' → Q w' s') :
    wpAny (model X.prog X.w) A (getItem (.ref a) u) Q E s := by
  rcases g with ⟨kvs, k, e, ey, l⟩ | ⟨kvs, k, b, e, ey, eb, l⟩
  · subst ey
    obtain ⟨z, hd, vs, rel, dd⟩ := dk_rd I.hok e
    obtain ⟨w', hw, rw'⟩ := RelO.some_of (v := v) (o := valueAt vs k) (by rw [l]; exact rel.val k)
    exact wpAny_getItem_of (kV_is ry) dd.mapOf hw (h w' _ (I.tok _) rw')
  · subst ey
    cases (show u = Value.ref b from ry)
    obtain ⟨z, hd, xs, rel, dd⟩ := dt_rd I.hok e
    obtain ⟨w', hw, rw'⟩ := RelO.some_of (v := v) (o := (atKey xs k).map (·.2)) (by rw [l]; exact rel.val k)
    obtain ⟨p, hp, hp2⟩ := Option.map_eq_some_iff.mp hw
    refine wpAny_getItem_heap (tupleKind_room_in1 hu) (key_of I.hok eb) dd hp ?_
    rw [hp2]
    exact h w' _ (I.tok _) rw'
/-- a dict's object is replaced -/
theorem d_write {h' : Heap} {t' : Nat} {ob : HO} (I : Inv X pins σ H s) (mu : Mut (H a)) (hs : Heap.SameBut a s.heap h') (he : ∃ q, h'.get? a = some q) (new : ObjOk X.prog X.w (upd H a ob) h' a ob) :
    Inv X pins σ (upd H a ob) { s with heap := h', toks := t' } :=
  I.write (x := a) (e := a) mu (.inl rfl) (fun b q hb z => (hs.2 b hb).trans z) he new
theorem dk_new {P : Program} {w : World} {H' : Hp} {h' : Heap} {kvs : List (Key × V)} {vs : List (Key × Value)} (z : kvs.length ≤ sizeLine) (hd : (a == sysModules) = false) (rel : KV kvs vs) (dd : h'.DictOf (mixKind P w) a vs) :
    ObjOk P w H' h' a (.dK kvs) := ⟨z, hd, vs, rel, dd⟩
/-- d[y] = v -/
theorem d_setItem {H' : Hp} {Q : Unit → Shared → Prop} (hu : A.units + 1 < cLine) (I : Inv X pins σ H s) (g : DPut H a y v H') (ry : RelV y u) (rv : RelV v r) (h : ∀ s', Inv X pins σ H' s' → Q () s') :
    wpAny (model X.prog X.w) A (setItem (.ref a) u r) Q E s := by
  rcases g with ⟨kvs, k, e, ey, l, eH⟩ | ⟨kvs, k, b, e, ey, eb, l, eH⟩
  · subst ey eH
    obtain ⟨z, hd, vs, rel, dd⟩ := dk_of I.hok e
    have hz : vs.length ≤ sizeLine := by rw [← rel.length]; exact z
    have hl : (putK kvs k v).length ≤ sizeLine := by have := length_putK kvs k v; omega
    refine wpAny_setItem_pairs (hsz := hz) (kV_is ry) dd fun h' dd' hs => h _ ?_
    have he : ∃ q, h'.get? a = some q := let ⟨q, _, _, hq, _⟩ := dd'; ⟨q, hq⟩
    exact d_write I (by rw [e]; exact True.intro) hs he (dk_new hl hd (rel.put k rv) dd')
  · subst ey eH
    cases (show u = Value.ref b from ry)
    obtain ⟨z, hd, xs, rel, dd⟩ := dt_of I.hok e
    have hz : xs.length ≤ sizeLine := by rw [← Paired.length rel]; exact z
    have hl : (putK kvs k v).length ≤ sizeLine := by have := length_putK kvs k v; omega
    refine wpAny_setItem_heap (hsz := hz) (tupleKind_room_in1 hu) (key_of I.hok eb) dd fun h' dd' hs => h _ ?_
    obtain ⟨q, es, ep, hq, h2, h3, h4, _, h5⟩ := dd'
    refine d_write I (by rw [e]; exact True.intro) hs ⟨q, hq⟩ ⟨hl, hd, _, (rel.put k eb rv).keeps fun c ys ec => ?_, q, es, ep, hq, h2, h3, h4, h5⟩
    rw [upd_ne (ne_of ec e (fun z => nomatch z))]
    exact ec
end

section
variable {X : Cx} {pins : List (Addr × Obj)} {σ : St} {H : Hp} {s : Shared} {a : Addr} {kvs : List (Key × V)} {k : Key} {u : Value} {A : Around} {E : Value → Shared → Prop}
end


/-! ### readings and rules -/
/-- the element of a subscription, not a slice -/
def NoSl (i : Expr) : Prop := ∀ ov iv, subscripted i false ov iv = operate [ov, iv] (getItem ov iv)
theorem subD_of {prog : Program} {w : World} {A : Around} {E : Value → Shared → Prop} {s : Shared} {env : Env} {value slice : Expr} {pos : Pos} {T id : String} {Q : Value → Shared → Prop}
    (hl : typeLookup (.type T) "__getitem__" = pure (some (.builtin id))) (hs : NoSl slice)
    (h : wpAny (model prog w) A (eval value env) (fun o s₁ => wpAny (model prog w) A (eval slice env) (fun i s₂ => s₂.TypeIs o T ∧ wpAny (model prog w) A (getItem o i) Q E s₂) E s₁) E s) :
    wpAny (model prog w) A (eval (.Subscript value slice pos) env) Q E s := by
  refine Subscript_ (wpAny_mono h (fun o s₁ h₁ => wpAny_mono h₁ (fun i s₂ h₂ => ?_) fun _ _ x => x) fun _ _ x => x)
  obtain ⟨hT, h₂⟩ := h₂
  unfold subscriptTail
  refine wpAny_bind ?_
  rw [getitemInPython_of_ne hT.not_modules]
  refine wpAny_bind (wpAny_specialOf hT hl ?_)
  have fin : wpAny (model prog w) A (subscripted slice false o i) (fun r s₃ => wpAny (model prog w) A (letTemporaryGo value o r >>= fun _ => pure r) Q E s₃) E s₂ := by
    rw [hs o i]
    exact wpAny_operating (wpAny_mono h₂ (fun r s₃ h₃ => wpAny_bind (wpAny_letTemporaryGo (wpAny_pure h₃))) fun _ _ x => x)
  first
    | exact wpAny_pure (wpAny_bind fin)
    | exact wpAny_bind (wpAny_pure (wpAny_bind fin))
    | exact wpAny_bind fin

theorem dict_typeIs {X : Cx} {pins : List (Addr × Obj)} {σ : St} {H : Hp} {s : Shared} {a : Addr} {y : V} {o : Option V} (I : Inv X pins σ H s) (g : DGet H a y o) : s.TypeIs (.ref a) "dict" := by
  rcases g with ⟨kvs, k, e, _, _⟩ | ⟨kvs, k, b, e, _, _, _⟩
  · obtain ⟨_, _, vs, _, dd⟩ := dk_rd I.hok e
    exact dd.typeIs
  · obtain ⟨_, _, xs, _, dd⟩ := dt_rd I.hok e
    exact dd.typeIs
/-- d[y] -/
def tDGet (td ty : TE) : TE := fun σ H Q => td σ H fun x H1 => ty σ H1 fun y H2 => ∃ a v, x = .ref a ∧ DGet H2 a y (some v) ∧ Q v H2
/-- d[y] = v -/
def sDPut (td ty tv : TE) : TS := fun D σ H => tv σ H fun v H1 => td σ H1 fun x H2 => ty σ H2 fun y H3 => ∃ a H4, x = .ref a ∧ DPut H3 a y v H4 ∧ D.nx σ H4
section
variable {X : Cx} {o i e value : Expr} {pos pos' tpos : Pos} {td ty tv : TE}
theorem pe_dget (hu : X.A.units + 1 < cLine) (ho : PE X o td) (hi : PE X i ty) (hs : NoSl i) : PE X (.Subscript o i pos) (tDGet td ty) := by
  intro pins s σ H Q I h
  refine subD_of PySem.F.slot_dict_getitem.lookup hs (thn (ho pins s σ H _ I h) fun u s1 ⟨x, H1, I1, rx, q1⟩ => thn (hi pins s1 σ H1 _ I1 q1) fun iv s2 ⟨y, H2, I2, ry, a, v, ex, g, q2⟩ => ?_)
  subst ex
  obtain rfl : u = Value.ref a := rx
  exact ⟨dict_typeIs I2 g, d_getItem hu I2 g ry fun w' s3 I3 rw' => ⟨v, H2, I3, rw', q2⟩⟩
theorem ps_dput (hu : X.A.units + 1 < cLine) (ho : PE X o td) (hi : PE X i ty) (hv : PE X value tv) (hs : swapsWith value (some (.Subscript o i pos')) pos.line X.env = pure false) :
    PS X (.Assign [.Subscript o i pos'] value pos) (sDPut td ty tv) := by
  intro pins s σ H D I h
  refine wpAny_Assign_Subscript (thn (hv pins s σ H _ I h) fun r s1 ⟨v, H1, I1, rv, q1⟩ => thn (ho pins s1 σ H1 _ I1 q1) fun u s2 ⟨x, H2, I2, rx, q2⟩ => thn (hi pins s2 σ H2 _ I2 q2) fun iv s3 ⟨y, H3, I3, ry, a, H4, ex, g, q3⟩ => ?_) hs
  subst ex
  obtain rfl : u = Value.ref a := rx
  exact d_setItem hu I3 g ry rv fun s4 I4 => ⟨σ, H4, I4, q3⟩
end


/-! ### displays -/
theorem dk_empty {P : Program} {w : World} {H : Hp} (h : Heap) (hb : sysModules < h.objs.size) : ObjOk P w H (h.push { cls := .type "dict", data := .dict #[] }) h.objs.size (.dK []) :=
  ⟨Nat.zero_le _, beq_eq_false_iff_ne.mpr (Ne.symm (Nat.ne_of_lt hb)), [], .nil, Heap.DictOf.new h⟩
theorem dt_empty {P : Program} {w : World} {H : Hp} (h : Heap) (hb : sysModules < h.objs.size) : ObjOk P w H (h.push { cls := .type "dict", data := .dict #[] }) h.objs.size (.dT []) :=
  ⟨Nat.zero_le _, beq_eq_false_iff_ne.mpr (Ne.symm (Nat.ne_of_lt hb)), [], .nil, _, #[], 0, Heap.get?_push_size _ rfl, ⟨rfl, rfl, rfl⟩, rfl, rfl, List.nodup_nil⟩
/-- {}, to be a dict of the kind that is wanted -/
def tDNewK : TE := fun _ H Q => ∀ p, H p = none → Q (.ref p) (upd H p (.dK []))
def tDNewT : TE := fun _ H Q => ∀ p, H p = none → Q (.ref p) (upd H p (.dT []))
section
variable {X : Cx} {pos : Pos}
theorem pe_dnewK : PE X (.Dict [] [] pos) tDNewK := fun pins s σ H Q I h =>
  wpAny_Dict_empty ⟨.ref s.heap.objs.size, _, I.laid (a := s.heap.objs.size) (o := .dK []) (t' := s.toks) (fun _ _ q => Heap.get?_push_of_some _ q) (Nat.le_refl _) (dk_empty s.heap I.big), rfl, h _ (I.hok.fresh (Nat.le_refl _))⟩
theorem pe_dnewT : PE X (.Dict [] [] pos) tDNewT := fun pins s σ H Q I h =>
  wpAny_Dict_empty ⟨.ref s.heap.objs.size, _, I.laid (a := s.heap.objs.size) (o := .dT []) (t' := s.toks) (fun _ _ q => Heap.get?_push_of_some _ q) (Nat.le_refl _) (dt_empty s.heap I.big), rfl, h _ (I.hok.fresh (Nat.le_refl _))⟩
end

/-! ### methods -/
/-- a method call o.m(e) of a built-in, with one argument: what must be seen of the text -/
structure M1 (X : Cx) (o : Expr) (m : Str) (apos : Pos) (e : Expr) (cpos : Pos) : Prop where
  base : attributeBase o m X.env (eval o X.env) = eval o X.env
  few : ((backTo cpos (starEach [e] X.env)).all (fun x => !x.1) && (backToKw cpos (keywordEach [] X.env)).all (fun x => x.1.isSome)
    && decide (([e] : List Expr).length + ([] : List Keyword).length + (if ([] : List Keyword).isEmpty then 0 else 1) < 30)) = true
  line : (apos.endLine == cpos.line) = true
  trees : backTo cpos (starEach [e] X.env) = [(false, eval e X.env)]
structure M2 (X : Cx) (o : Expr) (m : Str) (apos : Pos) (e f : Expr) (cpos : Pos) : Prop where
  base : attributeBase o m X.env (eval o X.env) = eval o X.env
  few : ((backTo cpos (starEach [e, f] X.env)).all (fun x => !x.1) && (backToKw cpos (keywordEach [] X.env)).all (fun x => x.1.isSome)
    && decide (([e, f] : List Expr).length + ([] : List Keyword).length + (if ([] : List Keyword).isEmpty then 0 else 1) < 30)) = true
  line : (apos.endLine == cpos.line) = true
  trees : backTo cpos (starEach [e, f] X.env) = [(false, eval e X.env), (false, eval f X.env)]

/-- a is a dict, whatever its keys -/
def IsD (H : Hp) (a : Addr) : Prop := (∃ kvs, Rd H a (.dK kvs)) ∨ ∃ kvs, Rd H a (.dT kvs)
theorem isD_at {X : Cx} {pins : List (Addr × Obj)} {σ : St} {H : Hp} {s : Shared} {a : Addr} (I : Inv X pins σ H s) (d : IsD H a) :
    s.TypeIs (.ref a) "dict" ∧ (∀ b, Value.ref a = .ref b → ∃ ob, s.heap.get? b = some ob ∧ ob.dict = none) ∧ (a == sysModules) = false := by
  rcases d with ⟨kvs, e⟩ | ⟨kvs, e⟩
  · obtain ⟨_, hd, vs, _, dd⟩ := dk_rd I.hok e
    refine ⟨dd.typeIs, fun b q => ?_, hd⟩
    cases q
    obtain ⟨ob, _, _, h1, h2, _⟩ := dd
    exact ⟨ob, h1, h2.2.1⟩
  · obtain ⟨_, hd, xs, _, dd⟩ := dt_rd I.hok e
    refine ⟨dd.typeIs, fun b q => ?_, hd⟩
    cases q
    obtain ⟨ob, _, _, h1, h2, _⟩ := dd
    exact ⟨ob, h1, h2.2.1⟩

section
variable {X : Cx} {pins : List (Addr × Obj)} {σ : St} {H : Hp} {s : Shared} {a : Addr} {y d : V} {u r : Value} {o : Option V} {A : Around} {E : Value → Shared → Prop}
/-- d.get(y, x) -/
theorem d_get2 {Q : Value → Shared → Prop} (hu : A.units + 1 < cLine) (I : Inv X pins σ H s) (g : DGet H a y o) (ry : RelV y u) (rd : RelV d r) (h : ∀ w' s', Inv X pins σ H s' → RelV (o.getD d) w' → Q w' s') :
    wpAny (model X.prog X.w) A (call (.builtin "dict.get") [.ref a, u, r]) Q E s := by
  rcases g with ⟨kvs, k, e, ey, l⟩ | ⟨kvs, k, b, e, ey, eb, l⟩
  · subst ey
    obtain ⟨z, hd, vs, rel, dd⟩ := dk_rd I.hok e
    refine call_meetsIn PySem.F.slot_dict_get dd.typeIs PySem.F.entry_dict_get (PySem.F.args_dict_get_3 _ _ _) (meets_dict_get_default (mixKind X.prog X.w) a (kV_is ry) hd r) ⟨_, dd.mapOf, h _ _ (I.tok _) ?_⟩
    rw [l]
    exact (rel.val k).getD rd
  · subst ey
    cases (show u = Value.ref b from ry)
    obtain ⟨z, hd, xs, rel, dd⟩ := dt_rd I.hok e
    refine call_meetsIn PySem.F.slot_dict_get dd.typeIs PySem.F.entry_dict_get (PySem.F.args_dict_get_3 _ _ _) (meetsH_dict_get_default (tupleKind (mixKind X.prog X.w)) a b hd r) ⟨tupleKind_room_in1 hu, k, xs, key_of I.hok eb, dd, h _ _ (I.tok _) ?_⟩
    rw [l]
    exact (rel.val k).getD rd
end

def tDGet2 (td ty tx : TE) : TE := fun σ H Q => td σ H fun x H1 => ∃ a, x = .ref a ∧ IsD H1 a ∧ ty σ H1 fun y H2 => tx σ H2 fun z H3 => ∃ o, DGet H3 a y o ∧ Q (o.getD z) H3
section
variable {X : Cx} {o e f : Expr} {apos cpos : Pos} {td ty tx : TE}
theorem pe_dget2 (hu : X.A.units + 1 < cLine) (ho : PE X o td) (he : PE X e ty) (hf : PE X f tx) (m : M2 X o "get" apos e f cpos) : PE X (.Call (.Attribute o "get" apos) [e, f] [] cpos) (tDGet2 td ty tx) := by
  intro pins s σ H Q I h
  refine wpAny_Call_method m.base m.few m.line PySem.F.plainAttrs_dict PySem.F.slot_dict_get PySem.F.type_dict_get (thn (ho pins s σ H _ I h) fun u s1 ⟨x, H1, I1, rx, a, ex, d, q1⟩ => ?_)
  subst ex
  obtain rfl : u = Value.ref a := rx
  obtain ⟨t1, t2, _⟩ := isD_at I1 d
  refine ⟨t1, t2, ?_⟩
  rw [m.trees]
  refine Calls.callWith_builtin rfl (Calls.evalArgs_plain (Calls.spliced_cons (thn (he pins s1 σ H1 _ I1 q1) fun iv s2 ⟨y, H2, I2, ry, q2⟩ =>
    Calls.spliced_cons (thn (hf pins s2 σ H2 _ I2 q2) fun fv s3 ⟨z, H3, I3, rz, ov, g, q3⟩ => Calls.spliced_nil ?_))))
  exact d_get2 hu I3 g ry rz fun w' s4 I4 rw' => ⟨_, H3, I4, rw', q3⟩
end

/-! ### dict(d): a copy -/
section
variable {X : Cx} {pins : List (Addr × Obj)} {σ : St} {H : Hp} {s : Shared} {a : Addr} {kvs : List (Key × V)} {A : Around} {E : Value → Shared → Prop}
end


section
variable {X : Cx} {pins : List (Addr × Obj)} {σ : St} {H : Hp} {s : Shared} {a : Addr} {y : V} {u : Value} {A : Around} {E : Value → Shared → Prop}
end
end L2
namespace L2
open PySem PySem.Spec PyProof.Rows
/-! ### a dict's pairs: keys that differ -/
section
variable {κ : Type} [DecidableEq κ]
end
end L2

set_option Elab.async false
set_option linter.all false
set_option maxRecDepth 100000
set_option maxHeartbeats 2000000
namespace L2
open PySem PySem.Spec PyProof.Rows
/-! ### a dict walked by its keys, whatever they are -/
/-- the dict at d with the entries es -/
def RawD (h : Heap) (d : Addr) (es : Array DictEntry) (ep : Nat) : Prop := ∃ o, h.get? d = some o ∧ o.ExactDict ∧ o.data = .dict es ep
theorem RawD.is {s : Shared} {d : Addr} {es : Array DictEntry} {ep : Nat} (x : RawD s.heap d es ep) : s.TypeIs (.ref d) "dict" := let ⟨o, a, b, _⟩ := x; ⟨o, a, b.1⟩
theorem RawD.lt {h : Heap} {d : Addr} {es : Array DictEntry} {ep : Nat} (x : RawD h d es ep) : d < h.objs.size := let ⟨_, a, _⟩ := x; Heap.lt_size a
theorem RawD.to {h h' : Heap} {d : Addr} {es : Array DictEntry} {ep : Nat} (x : RawD h d es ep) (k : ∀ o, h.get? d = some o → h'.get? d = some o) : RawD h' d es ep := let ⟨o, a, r⟩ := x; ⟨o, k _ a, r⟩
section
variable {prog : Program} {w : World} {A : Around} {E : Value → Shared → Prop} {s : Shared} {d it : Addr} {es : Array DictEntry} {ep : Nat}
theorem iter_raw {Q : Value → Shared → Prop} (lo : (d == sysModules) = false) (x : RawD s.heap d es ep)
    (q : Q (.ref s.heap.objs.size) { s with heap := s.heap.push { cls := .type "dict_keyiterator", data := .fields #[.ref d, .int 0 0, .int es.size 0, .int ep 0] } }) :
    wpAny (model prog w) A (pyIter (.ref d)) Q E s := by
  obtain ⟨o, x1, x2, x3⟩ := id x
  have tt := x.is
  refine wpAny_pyIter_slot tt F.slot_dict_iter (wpAny_call_entry F.slot_dict_iter tt F.entry_dict_iter ?_ (F.args_dict_iter_1 _))
  unfold Builtin.«dict.__iter__» Builtin.Dict.dictSlotNone
  refine wpAny_bind (wpAny_bind (wpAny_notOrdered_dict tt ?_))
  show wpAny (model prog w) _ (pure (Value.ref d)) _ _ s
  refine wpAny_pure (?_ : _)
  show wpAny (model prog w) _ (Builtin.Dict.showsAll d >>= _) _ _ s
  unfold Builtin.Dict.showsAll
  rw [if_neg (fun z => Bool.false_ne_true (lo.symm.trans z))]
  refine wpAny_bind (wpAny_pure (wpAny_bind (wpAny_dictEntries x1 x3 (wpAny_bind (wpAny_dictEpoch x1 x3 ?_)))))
  exact wpAny_bind (wpAny_newObj_type (wpAny_pure ⟨_, rfl, "dict_keyiterator", _, ⟨_, Heap.get?_push_size _ rfl, rfl⟩, F.slot_dict_keyiterator_next.lookup, by simpa [rawInt] using q⟩))
theorem next_raw {i : Nat} {Q : Option Value → Shared → Prop} (y : s.heap.IsKeyIter it d i es.size ep) (x : RawD s.heap d es ep) (hi : i < es.size)
    (q : ∀ h', h'.IsKeyIter it d (i + 1) es.size ep → Heap.SameBut it s.heap h' → Q (some es[i].key) { s with heap := h' }) :
    wpAny (model prog w) A (pyNext (.ref it)) Q E s := by
  obtain ⟨o, y1, y2, y3⟩ := id y
  obtain ⟨od, x1, x2, x3⟩ := id x
  have own : Builtin.Dict_items.ownsTuple "dict_keyiterator" = false := by decide
  unfold pyNext
  refine wpAny_bind (wpAny_attempt (wpAny_callSpecial?_slot (name := Str.ofString "__next__") y.typeIs F.slot_dict_keyiterator_next (wpAny_call_entry F.slot_dict_keyiterator_next y.typeIs F.entry_dict_keyiterator_next ?_ (F.args_dict_keyiterator_next_1 _))))
  refine wpAny_bind (wpAny_pure (wpAny_bind (wpAny_bind ?_)))
  first | refine wpAny_bind (wpAny_typeNameOfWhole_keyiter y.typeIs (wpAny_pure ?_)) | refine wpAny_bind (wpAny_typeNameOf_keyiter y.typeIs (wpAny_pure ?_))
  refine wpAny_bind (wpAny_fieldsOf y1 y3 ?_)
  simp only [own, Bool.false_eq_true, if_false]
  show wpAny (model prog w) _ (if (Value.ref d == Value.none) = true then _ else _) _ _ s
  rw [if_neg (show ¬ (Value.ref d == Value.none) = true from Bool.false_ne_true)]
  refine wpAny_bind (wpAny_pure (wpAny_bind (wpAny_dictEntries x1 x3 ?_)))
  rw [if_neg (by simp)]
  refine wpAny_bind (wpAny_pure (wpAny_bind (wpAny_dictEpoch x1 x3 ?_)))
  rw [if_neg (by simp)]
  refine wpAny_pure (?_ : _)
  simp only [show ¬ ((i : Int) < 0) from by omega, if_false, Int.toNat_natCast, Array.getElem?_eq_getElem hi]
  refine wpAny_bind (?_ : _)
  first | refine wpAny_bind (wpAny_typeNameOfWhole_keyiter y.typeIs (wpAny_pure ?_)) | refine wpAny_bind (wpAny_typeNameOf_keyiter y.typeIs (wpAny_pure ?_))
  refine wpAny_bind (wpAny_isOneOf_keyiter y.typeIs ?_)
  show wpAny (model prog w) _ (setField (.ref it) 1 (rawInt ((i : Int) + 1)) >>= _) _ _ s
  refine wpAny_bind (wpAny_setField y1 y3 (by simp) ?_)
  have y' : (s.heap.update it (Obj.mapFields (·.setIfInBounds 1 (rawInt ((i : Int) + 1))))).IsKeyIter it d (i + 1) es.size ep :=
    ⟨_, Heap.get?_update_self _ y1 (Obj.isFreed_of_fields (Obj.data_mapFields y3 _)), (Obj.cls_mapFields ..).trans y2, by rw [Obj.data_mapFields y3]; simp [rawInt]⟩
  refine wpAny_bind (wpAny_holding (wpAny_bind (wpAny_isOneOf_keyiter (s := { s with heap := s.heap.update it (Obj.mapFields (·.setIfInBounds 1 (rawInt ((i : Int) + 1)))) }) y'.typeIs ?_)))
  show wpAny (model prog w) _ (pure es[i].key) _ _ _
  exact wpAny_pure (wpAny_pure ⟨_, rfl, wpAny_pure (q _ y' (Heap.SameBut.update ..))⟩)
theorem end_raw {i : Nat} {Q : Option Value → Shared → Prop} (hh : A.handled = none) (y : s.heap.IsKeyIter it d i es.size ep) (x : RawD s.heap d es ep) (hi : es.size ≤ i)
    (q : ∀ h', Heap.ExtBut it s.heap h' → Q none { s with heap := h' }) :
    wpAny (model prog w) A (pyNext (.ref it)) Q E s := by
  obtain ⟨o, y1, y2, y3⟩ := id y
  obtain ⟨od, x1, x2, x3⟩ := id x
  have own : Builtin.Dict_items.ownsTuple "dict_keyiterator" = false := by decide
  unfold pyNext
  refine wpAny_bind (wpAny_attempt (wpAny_callSpecial?_slot (name := Str.ofString "__next__") y.typeIs F.slot_dict_keyiterator_next (wpAny_call_entry F.slot_dict_keyiterator_next y.typeIs F.entry_dict_keyiterator_next ?_ (F.args_dict_keyiterator_next_1 _))))
  refine wpAny_bind (wpAny_pure (wpAny_bind (wpAny_bind ?_)))
  first | refine wpAny_bind (wpAny_typeNameOfWhole_keyiter y.typeIs (wpAny_pure ?_)) | refine wpAny_bind (wpAny_typeNameOf_keyiter y.typeIs (wpAny_pure ?_))
  refine wpAny_bind (wpAny_fieldsOf y1 y3 ?_)
  simp only [own, Bool.false_eq_true, if_false]
  show wpAny (model prog w) _ (if (Value.ref d == Value.none) = true then _ else _) _ _ s
  rw [if_neg (show ¬ (Value.ref d == Value.none) = true from Bool.false_ne_true)]
  refine wpAny_bind (wpAny_pure (wpAny_bind (wpAny_dictEntries x1 x3 ?_)))
  rw [if_neg (by simp)]
  refine wpAny_bind (wpAny_pure (wpAny_bind (wpAny_dictEpoch x1 x3 ?_)))
  rw [if_neg (by simp)]
  refine wpAny_pure (?_ : _)
  simp only [show ¬ ((i : Int) < 0) from by omega, if_false, Int.toNat_natCast, Array.getElem?_eq_none hi]
  refine wpAny_bind (?_ : _)
  first | refine wpAny_bind (wpAny_typeNameOfWhole_keyiter y.typeIs (wpAny_pure ?_)) | refine wpAny_bind (wpAny_typeNameOf_keyiter y.typeIs (wpAny_pure ?_))
  show wpAny (model prog w) _ (setField (.ref it) 0 .none >>= _) _ _ s
  refine wpAny_bind (wpAny_setField y1 y3 (by simp) ?_)
  show wpAny (model prog w) _ (newExc (.type "StopIteration") [] >>= _) _ _ _
  refine wpAny_bind (?_ : _)
  unfold newExc newTuple
  refine wpAny_bind (wpAny_newObj_type ?_ (Nat.zero_le _))
  refine wpAny_bind (m := firstArgMember _ _) (wpAny_of_eq (a := Value.none) (by first | rfl | (unfold firstArgMember; rfl)) ?_)
  refine wpAny_newObj_type ?_ (by size_fits)
  unfold raiseNew
  refine wpAny_bind (wpAny_handled ?_)
  have hn : A.in1.handled = none := hh
  rw [hn]
  refine wpAny_bind (wpAny_pure (wpAny_throw (?_ : _)))
  refine wpAny_bind (wpAny_isInstance (b := true) (T := "StopIteration") ⟨_, Heap.get?_push_size _ rfl, rfl⟩ isSubtype_stop ?_)
  exact wpAny_pure (q _ (((Heap.SameBut.update ..).extBut.push _).push _))
theorem walk_raw (hh : A.handled = none) (I : Addr) (ne : d ≠ I) :
    Walks prog w A I [I, d] [I] es.size (fun i v => ∃ e, es[i]? = some e ∧ v = e.key) (fun i h => h.IsKeyIter I d i es.size ep ∧ RawD h d es ep) where
  sub := by intro b z; simp at z; simp [z]
  frame := fun i h h' st k => ⟨st.1.at (k I (by simp)), st.2.to (k d (by simp))⟩
  item := fun i s Q E hi st q => next_raw st.1 st.2 hi fun h' y' hs => q _ h' s.toks ⟨es[i], by simp [hi], rfl⟩ ⟨y', st.2.to fun o e => hs.extBut d o ne e⟩ fun b o hb e => hs.extBut b o (fun z => hb (by simp [z])) e
  done := fun s Q E st q => end_raw hh st.1 st.2 (Nat.le_refl _) fun h' he => q h' s.toks fun b o hb e => he b o (fun z => hb (by simp [z])) e
  self := fun i s Q E st q => wpAny_pyIter_keyiter st.1 q
theorem src_raw (lo : (d == sysModules) = false) : PySem.W.KdlSrc prog w "dict" d d es.size (fun i v => ∃ e, es[i]? = some e ∧ v = e.key) (fun h => RawD h d es ep) where
  type := fun s x => x.is
  there := fun h x => ⟨x.lt, x.lt⟩
  keep := fun h h' x k => x.to fun o e => k d (Or.inl rfl) o e
  notList := rfl
  notTuple := rfl
  hint := fun A E s Q x q => PySem.W.kdl_hint_dict x.is q
  iter := fun A s hh x => ⟨_, _, (fun E Q q => iter_raw lo x q), walk_raw hh _ (Nat.ne_of_lt x.lt), ⟨⟨_, Heap.get?_push_size _ rfl, rfl, rfl⟩, x.to fun o e => Heap.get?_push_of_some _ e⟩⟩
end
end L2

set_option Elab.async false
set_option linter.all false
set_option maxRecDepth 100000
set_option maxHeartbeats 2000000
namespace L2
open PySem PySem.Spec PyProof.Rows PySem.W
/-! ### sorting by an order that is known: what is asked, what comes out -/
section
variable {lt : Nat → Nat → Bool} {n : Nat}
def KW {α : Type} (lt : Nat → Nat → Bool) (n : Nat) (Q : α → Prop) : KasT α → Prop
  | .ret a => Q a
  | .ask i j k => i < n ∧ j < n ∧ KW lt n Q (k (lt i j))
theorem KW.bd {α β : Type} {f : α → KasT β} {Q : β → Prop} : ∀ {t : KasT α}, KW lt n (fun a => KW lt n Q (f a)) t → KW lt n Q (t.bind f)
  | .ret _, h => h
  | .ask _ _ k, ⟨h1, h2, h3⟩ => ⟨h1, h2, KW.bd (t := k _) h3⟩
theorem KW.mono {α : Type} {Q Q' : α → Prop} (hq : ∀ a, Q a → Q' a) : ∀ {t : KasT α}, KW lt n Q t → KW lt n Q' t
  | .ret a, h => hq a h
  | .ask _ _ k, ⟨h1, h2, h3⟩ => ⟨h1, h2, KW.mono hq (t := k _) h3⟩
theorem KW.wp {α : Type} {cmp : Nat → Nat → (Bool → Shared → Prop) → Shared → Prop} {s : Shared} {Q : α → Prop} (hc : ∀ i j C, i < n → j < n → C (lt i j) s → cmp i j C s) : ∀ {t : KasT α}, KW lt n Q t → t.kasWp cmp (fun a s' => s' = s ∧ Q a) s
  | .ret a, h => ⟨rfl, h⟩
  | .ask i j k, ⟨h1, h2, h3⟩ => hc i j _ h1 h2 (KW.wp hc (t := k _) h3)
def Pm (n : Nat) (p : Array Nat) : Prop := p.toList.Perm (List.range n)
theorem Pm.low {p : Array Nat} (h : Pm n p) (hn : 0 < n) (i : Nat) : p.getD i 0 < n := by
  unfold Array.getD
  split
  · rename_i hi
    exact List.mem_range.mp (h.mem_iff.mp (Array.getElem_mem_toList hi))
  · exact hn
theorem Pm.rev {p : Array Nat} (h : Pm n p) (i j : Nat) : Pm n (kas_rev p i j) := (Array.perm_iff_toList_perm.mp (mirror_perm p i j _)).trans h
theorem Pm.bub {p : Array Nat} (h : Pm n p) (i j : Nat) : Pm n (bubble p i j) := (Array.perm_iff_toList_perm.mp (bubble_perm p i j)).trans h
end
/-! ### list.sort -/
section
variable {prog : Program} {w : World} {A : Around} {E : Value → Shared → Prop} {s : Shared}
/-- the heap while a list is sorted -/
def midH (h : Heap) (a : Addr) (vs : List Value) : Heap := ((h.update a (Obj.mapSeq fun _ => #[])).push (seqObj "tuple" vs.toArray 0)).push (seqObj "list" #[] 0)
theorem mid_old {h : Heap} {a b : Addr} {vs : List Value} {o : Obj} (ne : b ≠ a) (e : h.get? b = some o) : (midH h a vs).get? b = some o :=
  Heap.get?_push_of_some _ (Heap.get?_push_of_some _ ((Heap.get?_update_ne _ _ _ _ ne).trans e))
theorem sorted_old {h : Heap} {a b : Addr} {vs : List Value} {out : Array Value} {o : Obj} (ne : b ≠ a) (e : h.get? b = some o) : (sortedHeap h a vs out).get? b = some o :=
  (Heap.get?_update_ne _ _ _ _ ne).trans (mid_old ne e)
theorem mid_at {h : Heap} {a : Addr} {vs xs : List Value} {n : Nat} (e : h.get? a = some (seqObj "list" xs.toArray n)) : ∃ c, (midH h a vs).get? a = some (seqObj "list" #[] c) ∧ (h.update a (Obj.mapSeq fun _ => #[])).get? a = some (seqObj "list" #[] c) :=
  ⟨_, Heap.get?_push_of_some _ (Heap.get?_push_of_some _ (get?_update_seq e fun _ => #[])), get?_update_seq e fun _ => #[]⟩
theorem sorted_at {h : Heap} {a : Addr} {vs xs : List Value} {n : Nat} {out : Array Value} (e : h.get? a = some (seqObj "list" xs.toArray n)) : ∃ c, (sortedHeap h a vs out).get? a = some (seqObj "list" out c) := by
  obtain ⟨c, h1, _⟩ := mid_at (vs := vs) e
  exact ⟨_, get?_update_seq h1 fun _ => out⟩
theorem sort_kw {a : Addr} {vs : List Value} {n : Nat} {κ : SortKind} {lt : Nat → Nat → Bool} {R : Array Nat → Prop} {P : PySem.Fin → Shared → Prop} (ho : s.heap.get? a = some (seqObj "list" vs.toArray n)) (h2 : 2 ≤ vs.length) (h64 : vs.length < 64)
    (hk : ∀ Q : SortKind → Shared → Prop, Q κ { s with heap := midH s.heap a vs } → wpAny (model prog w) A (keyKind' vs.toArray) Q E { s with heap := midH s.heap a vs })
    (hc : ∀ i j (C : Bool → Shared → Prop), i < vs.length → j < vs.length → C (lt i j) { s with heap := midH s.heap a vs } → wpAny (model prog w) A (keyLt' κ (vs.getD i Value.none) (vs.getD j Value.none)) C (fun _ _ => False) { s with heap := midH s.heap a vs })
    (kw : KW lt vs.length R (kas_sort vs.length))
    (h : ∀ p : Array Nat, p.size = vs.length → R p → P (.done (.ret .none)) { s with heap := sortedHeap s.heap a vs (List.toArray (p.toList.map fun i => vs.getD i Value.none)) }) :
    wpAny (model prog w) A (Builtin.«list.sort» ⟨[.ref a], []⟩) P E s := by
  obtain ⟨c, m1, m2⟩ := mid_at (vs := vs) ho
  have zs : ¬ vs.toArray.size < 2 := by rw [List.size_toArray]; omega
  have zl : vs.length ≤ sizeLine := by rw [sizeLine_eq]; omega
  rw [list_sort_plain]
  refine wpAny_bind (listItems_at ho rfl (wpAny_bind (listUpdate_at ho rfl ?_ (by rw [List.size_toArray]; exact zl) (Nat.zero_le _))))
  refine wpAny_bind (seqEpoch_at m2 rfl (wpAny_bind (wpAny_newTuple ?_ zl)))
  refine wpAny_bind (wpAny_newList ?_ (Nat.zero_le _))
  refine wpAny_holding (?_ : _)
  show wpAny (model prog w) A _ P E { s with heap := midH s.heap a vs }
  dsimp only
  rw [if_neg zs, if_neg zs]
  refine wpAny_bind (hk _ ?_)
  have run := kat_run (prog := prog) (w := w) (A := A) (E := E) (κ := κ) (ks := vs) (vs := vs) (s := { s with heap := midH s.heap a vs }) (Q := fun st' s' => s' = { s with heap := midH s.heap a vs } ∧ ∃ p : Array Nat, p.size = vs.length ∧ R p ∧ arrOf st' = p.map (kas_item (vs.toArray.zip vs.toArray)) ∧ failedOf st' = none)
    rfl h2 h64 (fun p st' s' b1 b2 b3 b4 => ⟨b4.1, p, b1, b4.2, b2, b3⟩) (KW.wp (cmp := kas_ask prog w A κ vs) (fun i j C li lj hC => hc i j C li lj hC) kw)
  refine wpAny_bind (wpAny_mono run ?_ fun _ _ e => e)
  rintro ⟨⟨⟩, st'⟩ s' ⟨rfl, p, pz, pR, har, hf⟩
  have out := kat_snds rfl har
  dsimp only
  rw [out]
  refine wpAny_bind (seqEpoch_at m1 rfl (wpAny_bind (listUpdate_at m1 rfl ?_ (Nat.zero_le _) ?_)))
  · rw [hf]
    simp only [bne_self_eq_false, Bool.false_eq_true, if_false]
    exact wpAny_pure (h p pz pR)
  · rw [List.size_toArray, List.length_map, Array.length_toList, pz]
    omega
theorem sort_few {a : Addr} {vs : List Value} {n : Nat} {P : PySem.Fin → Shared → Prop} (ho : s.heap.get? a = some (seqObj "list" vs.toArray n)) (h2 : vs.length < 2)
    (h : P (.done (.ret .none)) { s with heap := sortedHeap s.heap a vs vs.toArray }) : wpAny (model prog w) A (Builtin.«list.sort» ⟨[.ref a], []⟩) P E s := by
  obtain ⟨c, m1, m2⟩ := mid_at (vs := vs) ho
  have zs : vs.toArray.size < 2 := by rw [List.size_toArray]; omega
  have zl : vs.length ≤ sizeLine := by rw [sizeLine_eq]; omega
  rw [list_sort_plain]
  refine wpAny_bind (listItems_at ho rfl (wpAny_bind (listUpdate_at ho rfl ?_ (by rw [List.size_toArray]; exact zl) (Nat.zero_le _))))
  refine wpAny_bind (seqEpoch_at m2 rfl (wpAny_bind (wpAny_newTuple ?_ zl)))
  refine wpAny_bind (wpAny_newList ?_ (Nat.zero_le _))
  refine wpAny_holding (?_ : _)
  show wpAny (model prog w) A _ P E { s with heap := midH s.heap a vs }
  dsimp only
  rw [if_pos zs, if_pos zs]
  refine wpAny_bind (wpAny_pure (?_ : _))
  rw [StateT.run_pure]
  refine wpAny_bind (wpAny_pure (?_ : _))
  dsimp only
  have e : (vs.toArray.zip vs.toArray).map (·.2) = vs.toArray := by
    apply Array.toList_inj.mp
    simp [List.map_snd_zip]
  show wpAny (model prog w) A (seqEpoch a >>= _) P E _
  refine wpAny_bind (seqEpoch_at m1 rfl (wpAny_bind (listUpdate_at m1 rfl ?_ (Nat.zero_le _) ?_)))
  · simp only [bne_self_eq_false, Bool.false_eq_true, if_false]
    show wpAny (model prog w) A (ret Value.none) P E { s with heap := sortedHeap s.heap a vs ((vs.toArray.zip vs.toArray).map (·.2)) }
    rw [e]
    exact wpAny_pure h
  · show ((vs.toArray.zip vs.toArray).map (·.2)).size ≤ _
    rw [e, List.size_toArray]; omega
end
end L2

set_option Elab.async false
set_option linter.all false
set_option maxRecDepth 100000
set_option maxHeartbeats 2000000
namespace L2
open PySem PySem.Spec PyProof.Rows PySem.W
/-! ### sorted(d), of a dict whose keys are pairs of ints -/
/-- the order of pairs -/
def ltP (x y : Int × Int) : Bool := if (x.1 == y.1) = true then (if (x.2 == y.2) = true then false else decide (x.2 < y.2)) else decide (x.1 < y.1)
/-- a tuple of two ints -/
def TupI (h : Heap) (v : Value) (x : Int × Int) : Prop := ∃ a o t u n, v = .ref a ∧ h.get? a = some o ∧ o.cls = .type "tuple" ∧ o.data = .seq #[.int x.1 t, .int x.2 u] n
theorem TupI.to {h h' : Heap} {v : Value} {x : Int × Int} (z : TupI h v x) (k : ∀ b o, h.get? b = some o → h'.get? b = some o) : TupI h' v x :=
  let ⟨a, o, t, u, n, e, e1, r⟩ := z; ⟨a, o, t, u, n, e, k _ _ e1, r⟩
section
variable {prog : Program} {w : World} {A : Around} {E : Value → Shared → Prop} {s : Shared}
theorem lt_tupI {v v' : Value} {x y : Int × Int} {C : Bool → Shared → Prop} (hv : TupI s.heap v x) (hv' : TupI s.heap v' y) (h : C (ltP x y) s) : wpAny (model prog w) A (keyLt' (tuples' true) v v') C E s := by
  obtain ⟨a, o, t, u, n, rfl, a1, a2, a3⟩ := hv
  obtain ⟨b, o', t', u', n', rfl, b1, b2, b3⟩ := hv'
  refine kat_lt a1 a3 b1 b3 ?_
  show KatLex prog w A true false C [(.int x.1 t, .int y.1 t'), (.int x.2 u, .int y.2 u')] 0 s
  unfold ltP at h
  refine kat_cons (wpAny_eqBool_int (kat_go (fun e => ?_) fun e => ?_))
  · rw [if_pos e] at h
    refine kat_yes (kat_cons (wpAny_eqBool_int (kat_go (fun e2 => ?_) fun e2 => ?_)))
    · rw [if_pos e2] at h
      exact kat_yes (kat_nil h)
    · rw [if_neg (by rw [e2]; exact Bool.false_ne_true)] at h
      exact kat_no (kat_one _ _ (wpAny_lt_int h))
  · rw [if_neg (by rw [e]; exact Bool.false_ne_true)] at h
    exact kat_no (oneLt_int h)
theorem tups_of {h : Heap} : ∀ {vs : List Value}, (∀ v ∈ vs, ∃ x, TupI h v x) → ∃ fs, KatTups h vs fs ∧ fs.length = vs.length ∧ ∀ f ∈ fs, ∃ n t, f = Value.int n t
  | [], _ => ⟨[], .nil, rfl, fun _ z => nomatch z⟩
  | v :: vs, H => by
    obtain ⟨fs, a1, a2, a3⟩ := tups_of (vs := vs) fun u hu => H u (.tail _ hu)
    obtain ⟨x, a, o, t, u, n, rfl, b1, b2, b3⟩ := H v (.head _)
    refine ⟨.int x.1 t :: fs, KatTups.cons b1 b2 b3 rfl a1, congrArg (· + 1) a2, fun f hf => ?_⟩
    rcases List.mem_cons.mp hf with rfl | hf
    · exact ⟨_, _, rfl⟩
    · exact a3 f hf
theorem kind_tupI {vs : List Value} {Q : SortKind → Shared → Prop} (H : ∀ v ∈ vs, ∃ x, TupI s.heap v x) (h2 : 2 ≤ vs.length) (h : Q (tuples' true) s) : wpAny (model prog w) A (keyKind' vs.toArray) Q E s := by
  obtain ⟨fs, a1, a2, a3⟩ := tups_of H
  refine kat_kind (T := .type "int") a1 (by omega) (fun v hv => ?_) rfl h
  obtain ⟨n, t, rfl⟩ := a3 v hv
  exact Looks.of_pure rfl
end
end L2

set_option Elab.async false
set_option linter.all false
set_option maxRecDepth 100000
set_option maxHeartbeats 2000000
namespace L2
open PySem PySem.Spec PyProof.Rows PySem.W
/-! ### dicts with tuples for keys, read by computing -/
section
variable {X : Cx} {K : PySem.W.Frag}
/- {} -/
/- d[k] -/
@[irreducible] def rDG (a : Addr) (y : V) (H : Hp) (Q : VK) : Prop := ∃ v, DGet H a y (some v) ∧ Q v H
def rDGV (x y : V) (H : Hp) (Q : VK) : Prop := match x with
  | .ref a => rDG a y H Q
  | _ => False
def tDG (td ty : TE) : TE := fun σ H Q => td σ H fun x H1 => ty σ H1 fun y H2 => rDGV x y H2 Q
theorem tDG_eq (td ty : TE) : tDG td ty = tDGet td ty := by
  funext σ H Q
  unfold tDG tDGet
  congr 1; funext x H1; congr 1; funext y H2
  unfold rDGV
  apply propext
  cases x <;> first
    | (simp only [V.ref.injEq]; unfold rDG; exact ⟨fun ⟨v, g, q⟩ => ⟨_, v, rfl, g, q⟩, fun ⟨a, v, e, g, q⟩ => ⟨v, e ▸ g, q⟩⟩)
    | exact ⟨fun z => z.elim, fun ⟨a, v, e, _⟩ => nomatch e⟩
theorem peDGet {o i : Expr} {td ty : TE} {pos : Pos} (hu : X.A.units + 40 < cLine) (ho : PE X o td) (hi : PE X i ty) (hs : NoSl i := by exact fun _ _ => rfl) : PE X (.Subscript o i pos) (tDG td ty) := tDG_eq td ty ▸ pe_dget (by omega) ho hi hs
theorem dgT_rd {a b : Addr} {H : Hp} {Q : VK} {kvs : List (List Key × V)} {k : List Key} {v : V} (e : H a = some (.dT kvs)) (eb : H b = some (.tup (k.map kV))) (ev : valV kvs k = some v) (q : Q v H) : rDG a (.ref b) H Q := by
  unfold rDG
  exact ⟨v, ev ▸ DGet.t e eb, q⟩
/- d.get(k, z) -/
@[irreducible] def rIsD (a : Addr) (H : Hp) (P : Prop) : Prop := IsD H a ∧ P
@[irreducible] def rDG2 (a : Addr) (y z : V) (H : Hp) (Q : VK) : Prop := ∃ o, DGet H a y o ∧ Q (o.getD z) H
def rDG2V (x : V) (H : Hp) (P : Addr → Prop) : Prop := match x with
  | .ref a => rIsD a H (P a)
  | _ => False
def tDG2 (td ty tx : TE) : TE := fun σ H Q => td σ H fun x H1 => rDG2V x H1 fun a => ty σ H1 fun y H2 => tx σ H2 fun z H3 => rDG2 a y z H3 Q
theorem tDG2_eq (td ty tx : TE) : tDG2 td ty tx = tDGet2 td ty tx := by
  funext σ H Q
  unfold tDG2 tDGet2
  congr 1; funext x H1
  unfold rDG2V rIsD rDG2
  apply propext
  cases x <;> first
    | (simp only [V.ref.injEq]; exact ⟨fun z => ⟨_, rfl, z⟩, fun ⟨a, e, z⟩ => e ▸ z⟩)
    | exact ⟨fun z => z.elim, fun ⟨a, e, _⟩ => nomatch e⟩
theorem peM_get2 {o e f : Expr} {td ty tx : TE} {apos cpos : Pos} (hu : X.A.units + 40 < cLine) (ho : PE X o td) (he : PE X e ty) (hf : PE X f tx)
    (m1 : attributeBase o "get" X.env (eval o X.env) = eval o X.env := by rfl)
    (m2 : ((backTo cpos (starEach [e, f] X.env)).all (fun x => !x.1) && (backToKw cpos (keywordEach [] X.env)).all (fun x => x.1.isSome) && decide (([e, f] : List Expr).length + ([] : List Keyword).length + (if ([] : List Keyword).isEmpty then 0 else 1) < 30)) = true := by rfl)
    (m3 : (apos.endLine == cpos.line) = true := by rfl) (m4 : backTo cpos (starEach [e, f] X.env) = [(false, eval e X.env), (false, eval f X.env)] := by rfl) : PE X (.Call (.Attribute o "get" apos) [e, f] [] cpos) (tDG2 td ty tx) :=
  tDG2_eq td ty tx ▸ pe_dget2 (by omega) ho he hf ⟨m1, m2, m3, m4⟩
theorem isdT_rd {a : Addr} {H : Hp} {P : Prop} {kvs : List (List Key × V)} (e : H a = some (.dT kvs)) (p : P) : rIsD a H P := by unfold rIsD; exact ⟨.inr ⟨kvs, .inl e⟩, p⟩
theorem dg2T_rd {a b : Addr} {z : V} {H : Hp} {Q : VK} {kvs : List (List Key × V)} {k : List Key} (e : H a = some (.dT kvs)) (eb : H b = some (.tup (k.map kV))) (q : Q ((valV kvs k).getD z) H) : rDG2 a (.ref b) z H Q := by
  unfold rDG2
  exact ⟨_, DGet.t e eb, q⟩
/- d[k] = v -/
@[irreducible] def rDP (a : Addr) (y v : V) (H : Hp) (N : Hp → Prop) : Prop := ∃ H', DPut H a y v H' ∧ N H'
def rDPV (x y v : V) (H : Hp) (N : Hp → Prop) : Prop := match x with
  | .ref a => rDP a y v H N
  | _ => False
def sDP (td ty tv : TE) : TS := fun D σ H => tv σ H fun v H1 => td σ H1 fun x H2 => ty σ H2 fun y H3 => rDPV x y v H3 (D.nx σ)
theorem sDP_eq (td ty tv : TE) : sDP td ty tv = sDPut td ty tv := by
  funext D σ H
  unfold sDP sDPut
  congr 1; funext v H1; congr 1; funext x H2; congr 1; funext y H3
  unfold rDPV
  apply propext
  cases x <;> first
    | (simp only [V.ref.injEq]; unfold rDP; exact ⟨fun ⟨H', g, q⟩ => ⟨_, H', rfl, g, q⟩, fun ⟨a, H', e, g, q⟩ => ⟨H', e ▸ g, q⟩⟩)
    | exact ⟨fun z => z.elim, fun ⟨a, v, e, _⟩ => nomatch e⟩
theorem psDPut {o i value : Expr} {td ty tv : TE} {pos pos' : Pos} (hu : X.A.units + 40 < cLine) (ho : PE X o td) (hi : PE X i ty) (hv : PE X value tv) (hs : swapsWith value (some (.Subscript o i pos')) pos.line X.env = pure false := by rfl) :
    PS X (.Assign [.Subscript o i pos'] value pos) (sDP td ty tv) := sDP_eq td ty tv ▸ ps_dput (by omega) ho hi hv hs
theorem dpT_rd {a b : Addr} {v : V} {H : Hp} {N : Hp → Prop} {kvs : List (List Key × V)} {k : List Key} (e : H a = some (.dT kvs)) (eb : H b = some (.tup (k.map kV))) (hl : kvs.length < sizeLine) (q : ∀ H', Chg a H H' → H' a = some (.dT (putK kvs k v)) → N H') : rDP a (.ref b) v H N := by
  unfold rDP
  exact ⟨_, DPut.t e eb hl, q _ Chg.upd upd_same⟩
/- sorted(d) -/
/-- a key that is a pair of ints -/
def pK (x : Int × Int) : List Key := [.inl x.1, .inl x.2]
theorem paired_at {α β : Type} {R : α → β → Prop} : ∀ {as : List α} {bs : List β}, Paired R as bs → ∀ (i : Nat) (a : α) (b : β), as[i]? = some a → bs[i]? = some b → R a b := by
  intro as bs h
  induction h with
  | nil => intro i a b e; simp at e
  | cons h1 _ ih =>
    intro i a b e1 e2
    cases i with
    | zero => simp at e1 e2; subst e1; subst e2; exact h1
    | succ j => simp at e1 e2; exact ih j a b e1 e2
theorem paired_of {α β : Type} {R : α → β → Prop} : ∀ {as : List α} {bs : List β}, as.length = bs.length → (∀ (i : Nat) (a : α) (b : β), as[i]? = some a → bs[i]? = some b → R a b) → Paired R as bs
  | [], [], _, _ => .nil
  | a :: as, b :: bs, hl, h => .cons (h 0 a b rfl rfl) (paired_of (Nat.succ.inj hl) fun i x y e1 e2 => h (i + 1) x y (by simpa using e1) (by simpa using e2))
end
end L2

set_option Elab.async false
set_option linter.all false
set_option maxRecDepth 100000
set_option maxHeartbeats 2000000
namespace L2
open PySem PySem.Spec PyProof.Rows PySem.W
/-! ### what a sort gives is in order -/
/-- an order that a sort may ask -/
structure Ord (lt : Nat → Nat → Bool) : Prop where
  as : ∀ i j, lt i j = true → lt j i = false
  tr : ∀ i j k, lt j i = false → lt k j = false → lt k i = false
section
variable {lt : Nat → Nat → Bool} {n : Nat}
def gp (p : Array Nat) (i : Nat) : Nat := p.getD i 0
theorem gp_of {p q : Array Nat} {i j : Nat} (h : p[i]? = q[j]?) : gp p i = gp q j := by
  unfold gp
  rw [Array.getD_eq_getD_getElem?, Array.getD_eq_getD_getElem?, h]
theorem gp_rev {p : Array Nat} {i j : Nat} (hj : j ≤ p.size) (k : Nat) : gp (kas_rev p i j) k = if i ≤ k ∧ k < j then gp p (i + j - 1 - k) else gp p k := by
  have h := getElem?_mirror_all (xs := p) (i := i) hj k
  split
  · rename_i c; rw [if_pos c] at h; exact gp_of h
  · rename_i c; rw [if_neg c] at h; exact gp_of h
theorem gp_bub {p : Array Nat} {k l : Nat} (hk : k < p.size) (hl : l ≤ k) (i : Nat) : gp (bubble p k (k - l)) i = if i = l then gp p k else if l < i ∧ i ≤ k then gp p (i - 1) else gp p i := by
  have h := getElem?_bubble hk (k - l) (by omega) i
  rw [show k - (k - l) = l by omega] at h
  split
  · rename_i c; rw [if_pos c] at h; exact gp_of h
  · rename_i c
    rw [if_neg c] at h
    split
    · rename_i c2; rw [if_pos c2] at h; exact gp_of h
    · rename_i c2; rw [if_neg c2] at h; exact gp_of h
/-- in order up to k -/
def Up (lt : Nat → Nat → Bool) (p : Array Nat) (k : Nat) : Prop := ∀ i j, i ≤ j → j < k → lt (gp p j) (gp p i) = false
/-- falling up to k -/
def Dn (lt : Nat → Nat → Bool) (p : Array Nat) (k : Nat) : Prop := ∀ i j, i ≤ j → j < k → lt (gp p i) (gp p j) = false
theorem Ord.rf (O : Ord lt) (i : Nat) : lt i i = false := by
  cases h : lt i i with
  | false => rfl
  | true => exact absurd (O.as _ _ h) (by rw [h]; exact fun w => nomatch w)
theorem Up.snoc (O : Ord lt) {p : Array Nat} {k : Nat} (u : Up lt p k) (hk : 1 ≤ k) (h : lt (gp p k) (gp p (k - 1)) = false) : Up lt p (k + 1) := fun i j hij hj => by
  by_cases e : j = k
  · subst e
    by_cases e2 : i = j
    · subst e2; exact O.rf _
    · exact O.tr _ _ _ (u i (j - 1) (by omega) (by omega)) h
  · exact u i j hij (by omega)
theorem Dn.snoc (O : Ord lt) {p : Array Nat} {k : Nat} (u : Dn lt p k) (hk : 1 ≤ k) (h : lt (gp p (k - 1)) (gp p k) = false) : Dn lt p (k + 1) := fun i j hij hj => by
  by_cases e : j = k
  · subst e
    by_cases e2 : i = j
    · subst e2; exact O.rf _
    · exact O.tr _ _ _ h (u i (j - 1) (by omega) (by omega))
  · exact u i j hij (by omega)
/-- the state: a permutation -/
theorem Pm.size {p : Array Nat} (h : Pm n p) : p.size = n := by have := h.length_eq; rw [Array.length_toList, List.length_range] at this; exact this
theorem up_asc (O : Ord lt) (hn : 0 < n) {p : Array Nat} (h : Pm n p) : ∀ f m, 1 ≤ m → Up lt p m → KW lt n (fun r => m ≤ r ∧ r ≤ m + f ∧ Up lt p r ∧ (r < m + f → lt (gp p r) (gp p (r - 1)) = true)) (kas_asc p f m)
  | 0, m, _, u => ⟨Nat.le_refl _, Nat.le_refl _, u, fun z => absurd z (Nat.lt_irrefl _)⟩
  | f + 1, m, hm, u => by
    refine ⟨h.low hn _, h.low hn _, ?_⟩
    dsimp only
    cases e : lt (p.getD m 0) (p.getD (m - 1) 0) with
    | true => rw [if_pos rfl]; exact ⟨Nat.le_refl _, Nat.le_add_right _ _, u, fun _ => e⟩
    | false =>
      rw [if_neg (by decide)]
      exact KW.mono (fun r hr => ⟨by omega, by omega, hr.2.2.1, fun z => hr.2.2.2 (by omega)⟩) (up_asc O hn h f (m + 1) (by omega) (u.snoc O hm e))
/-- the last q + 1 are alike -/
def Al (lt : Nat → Nat → Bool) (p : Array Nat) (m q : Nat) : Prop := ∀ i j, m - (q + 1) ≤ i → i ≤ j → j < m → lt (gp p j) (gp p i) = false
theorem Dn.al_rev (O : Ord lt) {p : Array Nat} {m q : Nat} (hm : m ≤ p.size) (hq : q + 1 ≤ m) (d : Dn lt p m) (al : Al lt p m q) : Dn lt (kas_rev p (m - (q + 1)) m) m := fun i j hij hj => by
  rw [gp_rev hm, gp_rev hm]
  by_cases ci : m - (q + 1) ≤ i ∧ i < m
  · rw [if_pos ci, if_pos ⟨by omega, hj⟩]
    exact al _ _ (by omega) (by omega) (by omega)
  · rw [if_neg ci]
    split
    · exact d i _ (by omega) (by omega)
    · exact d i j hij hj
theorem up_desc (O : Ord lt) (hn : 0 < n) : ∀ f (p : Array Nat) m q, Pm n p → m + f ≤ n → q + 1 ≤ m → Dn lt p m → Al lt p m q → KW lt n (fun r => Pm n r.1 ∧ m ≤ r.2.1 ∧ r.2.1 ≤ m + f ∧ r.2.2 + 1 ≤ r.2.1 ∧ Dn lt r.1 r.2.1 ∧ Al lt r.1 r.2.1 r.2.2) (kas_desc f p m q)
  | 0, p, m, q, h, hf, hq, d, al => ⟨h, Nat.le_refl _, Nat.le_refl _, hq, d, al⟩
  | f + 1, p, m, q, h, hf, hq, d, al => by
    have hz := h.size
    refine ⟨h.low hn _, h.low hn _, ?_⟩
    dsimp only
    cases e : lt (p.getD m 0) (p.getD (m - 1) 0) with
    | true =>
      rw [if_pos rfl]
      have al0 : ∀ p' : Array Nat, Al lt p' (m + 1) 0 := fun p' i j h1 h2 h3 => by
        have : i = j := by omega
        subst this; exact O.rf _
      split
      · rename_i q0
        refine KW.mono (fun r hr => ⟨hr.1, by omega, by omega, hr.2.2.2⟩) (up_desc O hn f _ (m + 1) 0 (h.rev _ _) (by omega) (by omega) ?_ (al0 _))
        refine (d.al_rev O (by omega) hq al).snoc O (by omega) ?_
        rw [gp_rev (by omega), gp_rev (by omega), if_pos (by omega), if_neg (by omega), show m - (q + 1) + m - 1 - (m - 1) = m - (q + 1) by omega]
        exact O.tr _ _ _ (O.as _ _ e) (d _ _ (by omega) (by omega))
      · exact KW.mono (fun r hr => ⟨hr.1, by omega, by omega, hr.2.2.2⟩) (up_desc O hn f p (m + 1) 0 h (by omega) (by omega) (d.snoc O (by omega) (O.as _ _ e)) (al0 _))
    | false =>
      rw [if_neg (by decide)]
      refine ⟨h.low hn _, h.low hn _, ?_⟩
      dsimp only
      cases e2 : lt (p.getD (m - 1) 0) (p.getD m 0) with
      | true => rw [if_pos rfl]; exact ⟨h, Nat.le_refl _, Nat.le_add_right _ _, hq, d, al⟩
      | false =>
        rw [if_neg (by decide)]
        refine KW.mono (fun r hr => ⟨hr.1, by omega, by omega, hr.2.2.2⟩) (up_desc O hn f p (m + 1) (q + 1) h (by omega) (by omega) (d.snoc O (by omega) e2) ?_)
        intro i j h1 h2 h3
        by_cases ej : j = m
        · subst ej
          by_cases ei : i = j
          · subst ei; exact O.rf _
          · exact O.tr _ _ _ (al i (j - 1) (by omega) (by omega) (by omega)) e
        · exact al i j (by omega) h2 (by omega)
theorem Dn.rev {p : Array Nat} {m : Nat} (hm : m ≤ p.size) (d : Dn lt p m) : Up lt (kas_rev p 0 m) m := fun i j hij hj => by
  rw [gp_rev hm, gp_rev hm, if_pos (by omega), if_pos (by omega)]
  exact d _ _ (by omega) (by omega)
theorem up_tail (O : Ord lt) (hn : 0 < n) {m : Nat} {p : Array Nat} (h : Pm n p) (hm : m ≤ n) (m1 : 1 ≤ m) (d : Dn lt p m) : KW lt n (fun x => Pm n x.2 ∧ 1 ≤ x.1 ∧ x.1 ≤ n ∧ Up lt x.2 x.1) (kas_tail3 m n p) :=
  KW.bd (KW.mono (fun r hr => ⟨h.rev 0 m, by omega, by omega, hr.2.2.1⟩) (up_asc O hn (h.rev 0 m) (n - m) m m1 (d.rev (by rw [h.size]; exact hm))))
theorem up_part (O : Ord lt) (hn : 0 < n) {m : Nat} {p : Array Nat} (h : Pm n p) (hm : m + 1 ≤ n) (d : Dn lt p (m + 1)) : KW lt n (fun x => Pm n x.2 ∧ 1 ≤ x.1 ∧ x.1 ≤ n ∧ Up lt x.2 x.1) (kas_descPart m n p) := by
  refine KW.bd (KW.mono (fun r hr => ?_) (up_desc O hn (n - (m + 1)) p (m + 1) 0 h (by omega) (by omega) d fun i j h1 h2 h3 => ?_))
  · obtain ⟨r1, r2, r3, r4, r5, r6⟩ := hr
    split
    · exact up_tail O hn (r1.rev _ _) (by omega) (by omega) (r5.al_rev O (by rw [Pm.size r1]; omega) r4 r6)
    · exact up_tail O hn r1 (by omega) (by omega) r5
  · have : i = j := by omega
    subst this; exact O.rf _
theorem up_count (O : Ord lt) (hn : 0 < n) {p : Array Nat} (h : Pm n p) : KW lt n (fun x => Pm n x.2 ∧ 1 ≤ x.1 ∧ x.1 ≤ n ∧ Up lt x.2 x.1) (kas_count n p) := by
  have u1 : Up lt p 1 := fun i j h1 h2 => by
    have : i = j := by omega
    subst this; exact O.rf _
  refine KW.bd (KW.mono (fun r hr => ?_) (up_asc O hn h (n - 1) 1 (Nat.le_refl _) u1))
  obtain ⟨r1, r2, r3, r4⟩ := hr
  by_cases c : (r == n) = true
  · rw [if_pos c]
    exact ⟨h, r1, by omega, r3⟩
  · rw [if_neg c]
    have rn : r < n := by
      have : r ≠ n := fun z => c (by rw [z]; exact beq_self_eq_true n)
      omega
    by_cases c2 : r > 1
    · rw [if_pos c2]
      refine ⟨h.low hn _, h.low hn _, ?_⟩
      dsimp only
      cases e : lt (p.getD 0 0) (p.getD (r - 1) 0) with
      | true => rw [if_pos rfl]; exact ⟨h, r1, by omega, r3⟩
      | false =>
        rw [if_neg (by decide)]
        have hz : r ≤ p.size := by rw [Pm.size h]; omega
        have st := r4 (by omega)
        refine up_part O hn (h.rev 0 r) (by omega) (Dn.snoc O (fun i j hij hj => ?_) (by omega) ?_)
        · rw [gp_rev hz, gp_rev hz, if_pos (by omega), if_pos (by omega)]
          exact r3 _ _ (by omega) (by omega)
        · rw [gp_rev hz, gp_rev hz, if_pos (by omega), if_neg (by omega), show 0 + r - 1 - (r - 1) = 0 by omega]
          exact O.tr _ _ _ (O.as _ _ st) e
    · rw [if_neg c2]
      have r0 : r = 1 := by omega
      subst r0
      have st := r4 (by omega)
      exact up_part O hn h (by omega) (Dn.snoc O (fun i j hij hj => by
        have : i = j := by omega
        subst this; exact O.rf _) (Nat.le_refl _) (O.as _ _ st))
theorem up_place (O : Ord lt) (hn : 0 < n) {p : Array Nat} (h : Pm n p) (k : Nat) (u : Up lt p k) : ∀ f l r, l ≤ r → r ≤ k → r ≤ l + f → (∀ i, i < l → lt (gp p k) (gp p i) = false) → (∀ i, r ≤ i → i < k → lt (gp p k) (gp p i) = true) →
    KW lt n (fun x => x ≤ k ∧ (∀ i, i < x → lt (gp p k) (gp p i) = false) ∧ ∀ i, x ≤ i → i < k → lt (gp p k) (gp p i) = true) (kas_place p k f l r)
  | 0, l, r, h1, h2, h3, a, b => by
    have : r = l := by omega
    subst this
    exact ⟨h2, a, b⟩
  | f + 1, l, r, h1, h2, h3, a, b => by
    unfold kas_place
    by_cases c : l ≥ r
    · rw [if_pos c]
      have : r = l := by omega
      subst this
      exact ⟨h2, a, b⟩
    · rw [if_neg c]
      refine ⟨h.low hn _, h.low hn _, ?_⟩
      dsimp only
      cases e : lt (p.getD k 0) (p.getD ((l + r) / 2) 0) with
      | true =>
        rw [if_pos rfl]
        refine up_place O hn h k u f l ((l + r) / 2) (by omega) (by omega) (by omega) a fun i hi hk => ?_
        cases e2 : lt (gp p k) (gp p i) with
        | true => rfl
        | false =>
          have := O.tr _ _ _ (u ((l + r) / 2) i hi hk) (show lt (gp p k) (gp p i) = false from e2)
          rw [show lt (gp p k) (gp p ((l + r) / 2)) = true from e] at this
          cases this
      | false =>
        rw [if_neg (by decide)]
        refine up_place O hn h k u f ((l + r) / 2 + 1) r (by omega) h2 (by omega) (fun i hi => ?_) b
        exact O.tr _ _ _ (u i ((l + r) / 2) (by omega) (by omega)) e
theorem up_bub (O : Ord lt) {p : Array Nat} {k l : Nat} (hk : k < p.size) (u : Up lt p k) (hl : l ≤ k) (a : ∀ i, i < l → lt (gp p k) (gp p i) = false) (b : ∀ i, l ≤ i → i < k → lt (gp p k) (gp p i) = true) : Up lt (bubble p k (k - l)) (k + 1) := fun i j hij hj => by
  rw [gp_bub hk hl, gp_bub hk hl]
  by_cases ci : i = l
  · rw [if_pos ci]
    by_cases cj : j = l
    · rw [if_pos cj]; exact O.rf _
    · rw [if_neg cj, if_pos (by omega)]
      exact O.as _ _ (b (j - 1) (by omega) (by omega))
  · rw [if_neg ci]
    by_cases cj : j = l
    · rw [if_pos cj, if_neg (by omega)]
      exact a i (by omega)
    · rw [if_neg cj]
      by_cases di : l < i ∧ i ≤ k
      · rw [if_pos di, if_pos (by omega)]
        exact u _ _ (by omega) (by omega)
      · rw [if_neg di]
        by_cases dj : l < j ∧ j ≤ k
        · rw [if_pos dj]
          exact u _ _ (by omega) (by omega)
        · rw [if_neg dj]
          exact u _ _ hij (by omega)
theorem up_bin (O : Ord lt) (hn : 0 < n) : ∀ f (p : Array Nat) k, Pm n p → k + f = n → Up lt p k → KW lt n (fun p' => Pm n p' ∧ Up lt p' n) (kas_bin f p k)
  | 0, p, k, h, e, u => by
    have : k = n := by omega
    subst this
    exact ⟨h, u⟩
  | f + 1, p, k, h, e, u => by
    refine KW.bd (KW.mono (fun l hl => ?_) (up_place O hn h k u k 0 k (Nat.zero_le _) (Nat.le_refl _) (by omega) (fun i hi => absurd hi (Nat.not_lt_zero _)) fun i h1 h2 => absurd h2 (by omega)))
    exact up_bin O hn f _ (k + 1) (h.bub _ _) (by omega) (up_bub O (by rw [Pm.size h]; omega) u hl.1 hl.2.1 hl.2.2)
theorem up_sort (O : Ord lt) (hn : 0 < n) : KW lt n (fun p => Pm n p ∧ Up lt p n) (kas_sort n) := by
  have h0 : Pm n (List.toArray (List.range n)) := List.Perm.refl _
  refine KW.bd (KW.mono (fun r hr => ?_) (up_count O hn h0))
  obtain ⟨r1, r2, r3, r4⟩ := hr
  by_cases c : r.1 < n
  · rw [if_pos c, show max r.1 1 = r.1 by omega]
    exact up_bin O hn _ _ _ r1 (by omega) r4
  · rw [if_neg c]
    have e : r.1 = n := by omega
    exact ⟨r1, e ▸ r4⟩
end
end L2

set_option Elab.async false
set_option linter.all false
set_option maxRecDepth 100000
set_option maxHeartbeats 2000000
namespace L2
open PySem PySem.Spec PyProof.Rows PySem.W
/-! ### sorted(d) in order -/
theorem ltP_iff {x y : Int × Int} : ltP x y = true ↔ x.1 < y.1 ∨ (x.1 = y.1 ∧ x.2 < y.2) := by
  unfold ltP
  by_cases e : x.1 = y.1
  · rw [if_pos (beq_iff_eq.mpr e)]
    by_cases e2 : x.2 = y.2
    · rw [if_pos (beq_iff_eq.mpr e2)]
      exact ⟨(fun h => by cases h), fun h => by omega⟩
    · rw [if_neg (fun h => e2 (beq_iff_eq.mp h)), decide_eq_true_iff]
      exact ⟨fun h => .inr ⟨e, h⟩, fun h => by omega⟩
  · rw [if_neg (fun h => e (beq_iff_eq.mp h)), decide_eq_true_iff]
    exact ⟨fun h => .inl h, fun h => by omega⟩
theorem ltP_not {x y : Int × Int} : ltP x y = false ↔ ¬ (x.1 < y.1 ∨ (x.1 = y.1 ∧ x.2 < y.2)) := by
  rw [← ltP_iff]
  cases ltP x y <;> simp
theorem ord_P (xs : Nat → Int × Int) : Ord (fun i j => ltP (xs i) (xs j)) where
  as := fun i j h => by
    have h := ltP_iff.mp h
    exact ltP_not.mpr (by omega)
  tr := fun i j k h1 h2 => by
    have h1 := ltP_not.mp h1
    have h2 := ltP_not.mp h2
    exact ltP_not.mpr (by omega)
section
variable {prog : Program} {w : World} {A : Around} {E : Value → Shared → Prop} {s : Shared}
theorem sort_tupO {D : Addr} {vs : List Value} {xs : Nat → Int × Int} {P : PySem.Fin → Shared → Prop} (ho : s.heap.get? D = some (seqObj "list" vs.toArray 0)) (h64 : vs.length < 64)
    (H : ∀ i, i < vs.length → TupI s.heap (vs.getD i Value.none) (xs i))
    (h : ∀ (p : List Nat) (c : Nat) (hF : Heap), p.Perm (List.range vs.length) → p.Pairwise (fun i j => ltP (xs j) (xs i) = false) → (∀ b o, b ≠ D → s.heap.get? b = some o → hF.get? b = some o) → hF.get? D = some (seqObj "list" (List.toArray (p.map fun i => vs.getD i Value.none)) c) → P (.done (.ret .none)) { s with heap := hF }) :
    wpAny (model prog w) A (Builtin.«list.sort» ⟨[.ref D], []⟩) P E s := by
  by_cases h2 : vs.length < 2
  · refine sort_few ho h2 ?_
    obtain ⟨c, hc⟩ := sorted_at (vs := vs) (out := vs.toArray) ho
    refine h (List.range vs.length) c _ (List.Perm.refl _) ?_ (fun b o ne e => sorted_old ne e) ?_
    · have : vs.length = 0 ∨ vs.length = 1 := by omega
      rcases this with e | e <;> rw [e]
      · exact List.Pairwise.nil
      · exact List.pairwise_singleton _ _
    · rw [hc]
      have e : (List.range vs.length).map (fun i => vs.getD i Value.none) = vs := by
        apply List.ext_getElem (by simp)
        intro i h1 h2
        simp at h1 h2
        simp [h2]
      rw [e]
  · have old : ∀ v, v ∈ vs → ∃ i, i < vs.length ∧ vs.getD i Value.none = v := fun v hv => by
      obtain ⟨i, hi, e⟩ := List.mem_iff_getElem.mp hv
      exact ⟨i, hi, by simp [hi, e]⟩
    have nD : ∀ {v : Value} {x : Int × Int}, TupI s.heap v x → TupI (midH s.heap D vs) v x := fun {v x} z => by
      obtain ⟨a, o, t, u, n, e, e1, e2, e3⟩ := z
      refine ⟨a, o, t, u, n, e, mid_old (fun q => ?_) e1, e2, e3⟩
      rw [q, ho] at e1
      cases e1
      have e2' : Value.type "list" = Value.type "tuple" := e2
      exact absurd e2' (by decide)
    refine sort_kw (κ := tuples' true) (lt := fun i j => ltP (xs i) (xs j)) ho (by omega) h64 (fun Q q => kind_tupI (s := { s with heap := midH s.heap D vs }) (fun v hv => ?_) (by omega) q) (fun i j C li lj q => lt_tupI (s := { s with heap := midH s.heap D vs }) (nD (H i li)) (nD (H j lj)) q) (up_sort (ord_P xs) (by omega)) fun p pz pR => ?_
    · obtain ⟨i, hi, rfl⟩ := old v hv
      exact ⟨_, nD (H i hi)⟩
    · obtain ⟨c, hc⟩ := sorted_at (vs := vs) (out := List.toArray (p.toList.map fun i => vs.getD i Value.none)) ho
      refine h p.toList c _ pR.1 ?_ (fun b o ne e => sorted_old ne e) hc
      rw [List.pairwise_iff_getElem]
      intro i j hi hj hij
      rw [Array.length_toList] at hi hj
      have := pR.2 i j (Nat.le_of_lt hij) (by omega)
      unfold gp at this
      simpa [Array.getD, hi, hj] using this
theorem sorted_rawO {d : Addr} {es : Array DictEntry} {ep : Nat} {xs : Nat → Int × Int} {Q : Value → Shared → Prop} (lo : (d == sysModules) = false) (hh : A.handled = none) (x : RawD s.heap d es ep) (h64 : es.size < 64)
    (H : ∀ i e, es[i]? = some e → TupI s.heap e.key (xs i))
    (h : ∀ (h1 hF : Heap) (tk c : Nat) (p : List Nat) (vs : List Value), (∀ b o, s.heap.get? b = some o → h1.get? b = some o) → (∀ b o, h1.get? b = some o → hF.get? b = some o) → p.Perm (List.range es.size) → p.Pairwise (fun i j => ltP (xs j) (xs i) = false) → vs = es.toList.map (·.key) →
      hF.get? h1.objs.size = some (seqObj "list" (List.toArray (p.map fun i => vs.getD i Value.none)) c) → Q (.ref h1.objs.size) { s with heap := hF, toks := tk }) :
    wpAny (model prog w) A (call (.builtin "sorted") [.ref d]) Q E s := by
  have zl : es.size ≤ sizeLine := by rw [sizeLine_eq]; omega
  refine Calls.call_function_entry kind_sorted plain_sorted entry_sorted (args_sorted1 _) ?_
  unfold Builtin.«sorted»
  refine wpAny_bind (m := checkCount "sorted" 1 1 _) (wpAny_pure (wpAny_bind (kdu_collect (A := A.in1) (src_raw lo) hh x zl fun h1 tk acc k1 it => ?_)))
  have len : acc.toList.length = es.size := by rw [Array.length_toList]; exact it.1
  have ev : acc.toList = es.toList.map (·.key) := by
    apply List.ext_getElem (by rw [len, List.length_map, Array.length_toList])
    intro i a1 a2
    rw [Array.length_toList] at a1
    obtain ⟨e, e1, e2⟩ := it.2 i acc[i] (by simp [a1])
    simp only [Array.getElem_toList, List.getElem_map]
    rw [e2]
    obtain ⟨q1, q2⟩ := Array.getElem?_eq_some_iff.mp e1
    rw [← q2]
  refine wpAny_bind (wpAny_newList ?_ (by rw [len]; exact zl))
  have hD : (h1.push (seqObj "list" acc.toList.toArray 0)).get? h1.objs.size = some (seqObj "list" acc.toList.toArray 0) := Heap.get?_push_size _ rfl
  show wpAny (model prog w) _ _ _ _ { s with heap := h1.push (seqObj "list" acc.toList.toArray 0), toks := tk }
  refine wpAny_bind (wpAny_holding (wpAny_call_entry slot_list_sort ⟨_, hD, rfl⟩ entry_list_sort (sort_tupO (xs := xs) (s := { s with heap := h1.push (seqObj "list" acc.toList.toArray 0), toks := tk }) hD (by rw [len]; exact h64) (fun i hi => ?_) fun p c hF pp po kF eF => ⟨_, rfl, ?_⟩) (args_list_sort _)))
  · rw [len] at hi
    have z := (H i es[i] (by simp [hi])).to k1
    have e : acc.toList.getD i Value.none = es[i].key := by rw [ev]; simp [hi]
    rw [e]
    exact z.to fun b o q => Heap.get?_push_of_some _ q
  · refine wpAny_pure ⟨_, rfl, h h1 hF tk c p acc.toList k1 (fun b o e => kF b o (Nat.ne_of_lt (Heap.lt_size e)) (Heap.get?_push_of_some _ e)) (by rw [← len]; exact pp) po ev eF⟩
end
section
variable {X : Cx} {K : PySem.W.Frag}
/-- the ordered keys, none twice -/
def OrdK (ks : List (Int × Int)) : Prop := ks.Nodup ∧ ks.Pairwise (fun x y => ltP x y = true)
@[irreducible] def rSoO (a : Addr) (H : Hp) (Q : VK) : Prop := ∃ kvs : List ((Int × Int) × V), H a = some (.dT (kvs.map fun z => (pK z.1, z.2))) ∧ kvs.length < 64 ∧
  ∀ p H' (bs : List Addr) (ks : List (Int × Int)), H p = none → Same H H' → ks.Perm (kvs.map (·.1)) → OrdK ks → Paired (fun b x => H' b = some (.tup [.int x.1, .int x.2])) bs ks → H' p = some (.lst (bs.map V.ref)) → Q (.ref p) H'
def rSoOM : List V → Hp → VK → Prop := fun xs H Q => match xs with
  | [.ref p] => rSoO p H Q
  | _ => False
theorem soO_rd {a : Addr} {H : Hp} {Q : VK} {kvs : List ((Int × Int) × V)} (h : H a = some (.dT (kvs.map fun z => (pK z.1, z.2)))) (hl : kvs.length < 64)
    (q : ∀ p H' (bs : List Addr) (ks : List (Int × Int)), H p = none → Same H H' → ks.Perm (kvs.map (·.1)) → OrdK ks → Paired (fun b x => H' b = some (.tup [.int x.1, .int x.2])) bs ks → H' p = some (.lst (bs.map V.ref)) → Q (.ref p) H') : rSoO a H Q := by unfold rSoO; exact ⟨kvs, h, hl, q⟩
theorem ordK_of {ks : List (Int × Int)} (nd : ks.Nodup) (h : ks.Pairwise (fun x y => ltP y x = false)) : OrdK ks := by
  refine ⟨nd, ?_⟩
  refine List.Pairwise.imp (fun {x y} z => ?_) (List.Pairwise.and nd h)
  have z2 := ltP_not.mp z.2
  refine ltP_iff.mpr ?_
  have ne : ¬ (x.1 = y.1 ∧ x.2 = y.2) := fun w => z.1 (Prod.ext w.1 w.2)
  omega
theorem cSortO (hc : X.calm = true) : CallR X (.builtin "sorted") rSoOM := fun pins s σ H xs us Q I r h => by
  unfold rSoOM at h
  split at h
  · rename_i p
    unfold rSoO at h
    obtain ⟨kvs, h1, h2, h3⟩ := h
    obtain ⟨u1, rfl, rx⟩ := vals1 r
    cases rx
    obtain ⟨zl, lo, ys, kt, o, es, ep, e1, e2, e3, e4, e5⟩ := dt_of I.hok h1
    have lk : ys.length = kvs.length := by have := Paired.length kt; rw [List.length_map] at this; exact this.symm
    have le : es.size = kvs.length := by rw [← Array.length_toList, e4, List.length_map, lk]
    have at_ : ∀ i, (hi : i < kvs.length) → ∃ b v, ys[i]? = some (pK kvs[i].1, b, v) ∧ H b = some (.tup [.int kvs[i].1.1, .int kvs[i].1.2]) := fun i hi => by
      have hy : i < ys.length := lk ▸ hi
      have z := paired_at kt i (pK kvs[i].1, kvs[i].2) ys[i] (by simp [hi]) (by simp [hy])
      refine ⟨ys[i].2.1, ys[i].2.2, ?_, z.2.1⟩
      rw [List.getElem?_eq_getElem hy]
      have z1 : pK kvs[i].1 = ys[i].1 := z.1
      rw [z1]
    have ke : ∀ i e, es[i]? = some e → ∃ hi : i < kvs.length, ∃ b v, ys[i]? = some (pK kvs[i].1, b, v) ∧ e.key = .ref b ∧ H b = some (.tup [.int kvs[i].1.1, .int kvs[i].1.2]) := fun i e q => by
      obtain ⟨q1, q2⟩ := Array.getElem?_eq_some_iff.mp q
      have hi : i < kvs.length := le ▸ q1
      obtain ⟨b, v, y1, y2⟩ := at_ i hi
      refine ⟨hi, b, v, y1, ?_, y2⟩
      rw [← Array.getElem?_toList, e4, List.getElem?_map, y1] at q
      simp only [Option.map_some, Option.some.injEq] at q
      rw [← q]; rfl
    refine sorted_rawO (xs := fun i => ((kvs.map (·.1))[i]?).getD (0, 0)) lo (I.ok.hd hc) (d := p) (es := es) (ep := ep) ⟨o, e1, e2, e3⟩ (by omega) (fun i e q => ?_) fun h' hF tk c pm vs k1 kF pp po ev eF => ?_
    · obtain ⟨hi, b, v, _, q2, q3⟩ := ke i e q
      obtain ⟨_, its, rv, ob, b1, b2, n, b3⟩ := (show ObjOk X.prog X.w H s.heap b (.tup [.int kvs[i].1.1, .int kvs[i].1.2]) from I.hok b _ q3)
      obtain ⟨v1, v2, rfl, w1, w2⟩ := vals2 rv
      obtain ⟨t1, rfl⟩ := w1
      obtain ⟨t2, rfl⟩ := w2
      have ex : ((kvs.map (·.1))[i]?).getD (0, 0) = kvs[i].1 := by simp [hi]
      rw [ex, q2]
      exact ⟨b, ob, t1, t2, n, rfl, b1, b2, b3⟩
    · have hp : p < s.heap.objs.size := Heap.lt_size e1
      have I1 : Inv X pins σ H { s with heap := h', toks := tk } := I.kept k1
      have fr : H h'.objs.size = none := I1.fresh
      let as : List Addr := pm.map fun i => ((ys[i]?).map (·.2.1)).getD 0
      have mem : ∀ i, i ∈ pm → i < kvs.length := fun i hi => by have := List.mem_range.mp (pp.mem_iff.mp hi); omega
      have vals : (pm.map fun i => vs.getD i Value.none) = as.map Value.ref := by
        rw [List.map_map]
        refine List.map_congr_left fun i hi => ?_
        have hi' := mem i hi
        have hes : i < es.size := by omega
        obtain ⟨_, b, v, y1, y2, _⟩ := ke i es[i] (by simp [hes])
        rw [ev]
        simp [hes, y1, y2]
      have rl : Vals (as.map V.ref) (as.map Value.ref) := by
        generalize as = l
        induction l with
        | nil => exact .nil
        | cons a l ih => exact .cons rfl ih
      have lz : as.length ≤ sizeLine := by
        show (pm.map _).length ≤ _
        rw [List.length_map, pp.length_eq, List.length_range, sizeLine_eq]; omega
      refine ⟨.ref _, _, I1.laid (h' := hF) (t' := tk) (o := .lst (as.map V.ref)) kF (Nat.le_refl _) ?_, rfl, h3 _ _ as (pm.map fun i => ((kvs.map (·.1))[i]?).getD (0, 0)) fr (Same.upd fr) ?_ (ordK_of ?_ ?_) ?_ upd_same⟩
      · exact ⟨by rw [List.length_map]; exact lz, as.map Value.ref, c, rl, by rw [eF, vals]⟩
      · have e : (List.range kvs.length).map (fun i => ((kvs.map (·.1))[i]?).getD (0, 0)) = kvs.map (·.1) := by
          apply List.ext_getElem (by simp)
          intro i a1 a2
          simp at a1
          simp [a1]
        have q := (show pm.Perm (List.range kvs.length) from le ▸ pp).map fun i => ((kvs.map (·.1))[i]?).getD (0, 0)
        rw [e] at q
        exact q
      · have e : (List.range kvs.length).map (fun i => ((kvs.map (·.1))[i]?).getD (0, 0)) = kvs.map (·.1) := by
          apply List.ext_getElem (by simp)
          intro i a1 a2
          simp at a1
          simp [a1]
        have q := (show pm.Perm (List.range kvs.length) from le ▸ pp).map fun i => ((kvs.map (·.1))[i]?).getD (0, 0)
        rw [e] at q
        refine q.nodup_iff.mpr ?_
        have nk : ((kvs.map fun z => (pK z.1, z.2)).map (·.1)).Nodup := by
          have : (kvs.map fun z => (pK z.1, z.2)).map (·.1) = ys.map (·.1) := by
            apply List.ext_getElem (by rw [List.length_map, List.length_map, List.length_map, lk])
            intro i a1 a2
            rw [List.length_map, List.length_map] at a1
            obtain ⟨b, v, y1, _⟩ := at_ i a1
            have hy : i < ys.length := lk ▸ a1
            rw [List.getElem?_eq_getElem hy] at y1
            simp only [List.getElem_map]
            rw [Option.some.inj y1]
          rw [this]; exact e5.2
        rw [List.map_map] at nk
        have : (kvs.map (Prod.fst ∘ fun z => (pK z.1, z.2))) = (kvs.map (·.1)).map pK := by rw [List.map_map]; rfl
        rw [this] at nk
        exact List.Pairwise.of_map pK (fun a b h e => h (by rw [e])) nk
      · rw [List.pairwise_map]
        exact po
      · refine paired_of (by rw [List.length_map, List.length_map]) fun i a x q1 q2 => ?_
        rw [List.getElem?_map] at q1 q2
        obtain ⟨j, j1, j2⟩ := Option.map_eq_some_iff.mp q1
        rw [j1] at q2
        have hj := mem j (List.mem_of_getElem? j1)
        obtain ⟨b, v, y1, y2⟩ := at_ j hj
        rw [y1] at j2
        have j3 : b = a := j2
        have ex : kvs[j].1 = x := by simpa [hj] using q2
        rw [← j3, ← ex]
        exact (Same.upd fr) b _ y2
  · exact h.elim
end
end L2

set_option Elab.async false
set_option linter.all false
set_option maxRecDepth 100000
set_option maxHeartbeats 4000000
namespace L2
open PySem PySem.Spec PyProof.Rows
/-! ### isinstance(e, (C, D)) of what was caught -/
section
variable {X : Cx} {K : PySem.W.Frag} {H : Hp} {Q : VK}
/-- a caught exception of the class D -/
def ExA (H : Hp) (e D : Addr) : Prop := H e = some (excO e (.ref D) none) ∨ ∃ d fs, H e = some (excO e (.ref D) (some d)) ∧ H d = some (.xd fs)
@[irreducible] def rIsiC (K : PySem.W.Frag) (x c : V) (H : Hp) (Q : VK) : Prop := ∃ (ea D p : Addr) (cs : List Addr) (b : Bool), x = .ref ea ∧ c = .ref p ∧ H p = some (.tup (cs.map V.ref)) ∧ ExA H ea D ∧ ExcK K D ∧ (PySem.W.clsIn K D).isSome = true ∧ PySem.W.kitAny K (.ref D) (cs.map Value.ref) = some b ∧ Q (.bl b) H
def rIsiCM (K : PySem.W.Frag) : List V → Hp → VK → Prop := fun xs H Q => match xs with
  | [x, c] => rIsiC K x c H Q
  | _ => False
theorem vals_ref : ∀ {ns : List Addr} {us : List Value}, Vals (ns.map V.ref) us → us = ns.map Value.ref
  | [], _, .nil => rfl
  | n :: ns, _, .cons r t => by rw [show _ = Value.ref n from r, vals_ref t]; rfl
theorem cIsiC (hK : X.K = K) : CallR X (.builtin "isinstance") (rIsiCM K) := by
  subst hK
  intro pins s σ H xs us Q I r h
  unfold rIsiCM at h
  split at h
  · unfold rIsiC at h
    obtain ⟨ea, D, p, cs, b, rfl, rfl, h1, h2, h3, h4, h5, h6⟩ := h
    obtain ⟨u, w, rfl, r1, r2⟩ := vals2 r
    cases r1
    cases r2
    obtain ⟨_, its, r3, o, e1, e2, n, e3⟩ := (show ObjOk X.prog X.w H s.heap p (.tup (cs.map V.ref)) from I.hok p _ h1)
    have ei := vals_ref r3
    subst ei
    obtain ⟨oc, od, odt, osl⟩ := o
    cases e2
    cases e3
    rcases h2 with h2 | ⟨d, fs, h2, h0⟩
    · obtain ⟨q, _⟩ := I.hok ea _ h2
      exact PySem.W.kia_tup (kitx_exc h3 h4) I.kIn q e1 h5 (fun z => nomatch z) fun tk => ⟨.bl b, H, I.tok _, rfl, h6⟩
    · obtain ⟨q, _⟩ := I.hok ea _ h2
      obtain ⟨_, ⟨od', _, _, e0, _⟩, _⟩ := (show ObjOk X.prog X.w H s.heap d (.xd fs) from I.hok d _ h0)
      exact PySem.W.kia_tup (kitx_excD h3 h4) I.kIn ⟨q, od', e0⟩ e1 h5 (fun z => nomatch z) fun tk => ⟨.bl b, H, I.tok _, rfl, h6⟩
  · exact h.elim
theorem kitA_none {t : Value} : ∀ {cs : List Addr}, (∀ c ∈ cs, PySem.W.kitOne K t (.ref c) = some false) → PySem.W.kitAny K t (cs.map Value.ref) = some false
  | [], _ => rfl
  | c :: cs, h => by
    rw [List.map_cons]
    unfold PySem.W.kitAny
    rw [h c (.head _)]
    exact kitA_none fun x hx => h x (.tail _ hx)
theorem isiC_rd {ea D p : Addr} {cs : List Addr} (h1 : H p = some (.tup (cs.map V.ref))) (h2 : ExA H ea D) (h3 : ExcK K D) (h4 : (PySem.W.clsIn K D).isSome = true) (h5 : ∀ c ∈ cs, PySem.W.kitOne K (.ref D) (.ref c) = some false) (q : Q (.bl false) H) : rIsiC K (.ref ea) (.ref p) H Q := by
  unfold rIsiC; exact ⟨ea, D, p, cs, false, rfl, rfl, h1, h2, h3, h4, kitA_none h5, q⟩
end
/-! ### try: y = ['..', f(..)] -/
section
variable {X : Cx} {pins : List (Addr × Obj)} {σ : St} {H : Hp} {s : Shared}
end
end L2

set_option Elab.async false
set_option linter.all false
set_option maxRecDepth 100000
set_option maxHeartbeats 4000000
namespace L2
open PySem PySem.Spec PyProof.Rows
/-! ### str(x) of a list, a tuple -/
mutual
inductive ShV (H : Hp) : V → PyData → Prop
  | non : ShV H .non .none
  | bl (b : Bool) : ShV H (.bl b) (.bool b)
  | int (i : Int) : ShV H (.int i) (.int i)
  | str (x : Str) : ShV H (.str x) (.str x)
  | lst {a : Addr} {xs : List V} {ds : List PyData} : H a = some (.lst xs) → ShL H xs ds → ShV H (.ref a) (.list ds)
  | tup {a : Addr} {xs : List V} {ds : List PyData} : H a = some (.tup xs) → ShL H xs ds → ShV H (.ref a) (.tuple ds)
inductive ShL (H : Hp) : List V → List PyData → Prop
  | nil : ShL H [] []
  | cons {x : V} {d : PyData} {xs : List V} {ds : List PyData} : ShV H x d → ShL H xs ds → ShL H (x :: xs) (d :: ds)
end
section
variable {X : Cx} {pins : List (Addr × Obj)} {σ : St} {H H' : Hp} {s : Shared} {Q : VK}
mutual
theorem ShV.same {v : V} {d : PyData} (h : ShV H v d) (k : Same H H') : ShV H' v d := match h with
  | .non => .non
  | .bl b => .bl b
  | .int i => .int i
  | .str x => .str x
  | .lst e l => .lst (k _ _ e) (l.same k)
  | .tup e l => .tup (k _ _ e) (l.same k)
theorem ShL.same {xs : List V} {ds : List PyData} (h : ShL H xs ds) (k : Same H H') : ShL H' xs ds := match h with
  | .nil => .nil
  | .cons a b => .cons (a.same k) (b.same k)
end
theorem ShL.len {xs : List V} {ds : List PyData} (h : ShL H xs ds) : xs.length = ds.length := match h with
  | .nil => rfl
  | .cons _ b => by rw [List.length_cons, List.length_cons, b.len]
mutual
theorem ShV.reads (I : Inv X pins σ H s) {v : V} {d : PyData} {u : Value} (h : ShV H v d) (r : RelV v u) : ∃ as, Reads s.heap u d as := match h with
  | .non => by cases (show u = Value.none from r); exact ⟨_, .none⟩
  | .bl b => by cases (show u = Value.bool b from r); exact ⟨_, .bool b⟩
  | .int i => by obtain ⟨t, q⟩ := (show ∃ t, u = Value.int i t from r); cases q; exact ⟨_, .int i t⟩
  | .str x => by obtain ⟨t, q⟩ := (show ∃ t, u = Value.str x t from r); cases q; exact ⟨_, .str x t⟩
  | .lst (a := a) (xs := xs) e l => by
    cases (show u = Value.ref a from r)
    obtain ⟨_, us, n, rv, h1⟩ := (show ObjOk X.prog X.w H s.heap a (.lst xs) from I.hok a _ e)
    obtain ⟨as, ra⟩ := l.reads I rv
    exact ⟨_, .list h1 rfl rfl (by simpa using ra)⟩
  | .tup (a := a) (xs := xs) e l => by
    cases (show u = Value.ref a from r)
    obtain ⟨_, us, rv, o, h1, h2, n, h3⟩ := (show ObjOk X.prog X.w H s.heap a (.tup xs) from I.hok a _ e)
    obtain ⟨as, ra⟩ := l.reads I rv
    exact ⟨_, .tuple h1 h2 h3 (by simpa using ra)⟩
theorem ShL.reads (I : Inv X pins σ H s) {xs : List V} {ds : List PyData} {us : List Value} (h : ShL H xs ds) (r : Vals xs us) : ∃ as, ReadsAll s.heap us ds as := match h, r with
  | .nil, .nil => ⟨_, .nil⟩
  | .cons a b, .cons r1 r2 => by
    obtain ⟨as, ra⟩ := a.reads I r1
    obtain ⟨bs, rb⟩ := b.reads I r2
    exact ⟨_, .cons ra rb⟩
end
/-- what can be shown: its depth, its length -/
structure Shows (d : PyData) (k m : Nat) : Prop where
  ok : d.showable = true
  nd : d.hasDict = false
  dp : d.depth ≤ k
  ln : d.shown.length ≤ m
theorem Shows.up {d : PyData} {k m k' m' : Nat} (h : Shows d k m) (h1 : k ≤ k') (h2 : m ≤ m') : Shows d k' m' := ⟨h.ok, h.nd, Nat.le_trans h.dp h1, Nat.le_trans h.ln h2⟩
theorem all_show {k m : Nat} : ∀ {ds : List PyData}, (∀ d ∈ ds, Shows d k m) → PyData.showableAll ds = true ∧ PyData.hasDictAll ds = false ∧ PyData.depthAll ds ≤ k ∧ piled (PyData.shownAll ds) ≤ ds.length * (m + 2)
  | [], _ => ⟨rfl, rfl, Nat.zero_le _, by simp [PyData.shownAll, piled]⟩
  | d :: ds, h => by
    have h0 := h d (.head _)
    obtain ⟨a1, a2, a3, a4⟩ := all_show (ds := ds) fun x hx => h x (.tail _ hx)
    refine ⟨by simp [PyData.showableAll, h0.ok, a1], by simp [PyData.hasDictAll, h0.nd, a2], ?_, ?_⟩
    · have := h0.dp
      simp only [PyData.depthAll]
      omega
    · have := h0.ln
      simp only [PyData.shownAll, piled_cons, List.length_cons, Nat.succ_mul]
      omega
theorem textFrom_le : ∀ (ts : List Str) (k : Nat) (acc : Str), (textFrom k acc ts).length ≤ acc.length + piled ts
  | [], _, acc => by simp [textFrom, piled]
  | t :: ts, k, acc => by
    have ih := textFrom_le ts (k + 1) (acc ++ (if k > 0 then ", " else "" : String) ++ t)
    have e : (acc ++ (if k > 0 then ", " else "" : String) ++ t).length = acc.length + (if k > 0 then 2 else 0) + t.length := by
      rw [strLen_append, strLen_append]
      congr 2
      split <;> rfl
    rw [piled_cons]
    show (textFrom (k + 1) _ ts).length ≤ _
    rw [e] at ih
    have e2 : (if k > 0 then 2 else 0) ≤ 2 := by split <;> omega
    omega
theorem Shows.list {ds : List PyData} {k m : Nat} (h : ∀ d ∈ ds, Shows d k m) : Shows (.list ds) (k + 1) (ds.length * (m + 2) + 2) := by
  obtain ⟨a1, a2, a3, a4⟩ := all_show h
  refine ⟨by simpa [PyData.showable] using a1, by simpa [PyData.hasDict] using a2, by simp only [PyData.depth]; omega, ?_⟩
  have := textFrom_le (PyData.shownAll ds) 0 "["
  have e1 : ((("[" : String) : Str)).length = 1 := rfl
  have e2 : ((("]" : String) : Str)).length = 1 := rfl
  simp only [PyData.shown, listText, strLen_append]
  omega
theorem Shows.int {i : Int} (h : -(10 ^ 100) ≤ i) (h' : i ≤ 10 ^ 100) : Shows (.int i) 0 1921 := by
  have hl : i.natAbs.log2 < 1920 := by
    by_cases z : i.natAbs = 0
    · rw [z]; decide
    · rw [Nat.log2_lt z]
      have h1 : i.natAbs ≤ 10 ^ 100 := by omega
      exact Nat.lt_of_le_of_lt h1 (by decide +kernel)
  exact ⟨by simpa [PyData.showable] using hl, rfl, by simp [PyData.depth], by simpa only [PyData.shown] using PyProof.Rows.int_text_len_1921 hl⟩
theorem Shows.non : Shows .none 0 4 := ⟨rfl, rfl, by simp [PyData.depth], by decide⟩
theorem Shows.bl {b : Bool} : Shows (.bool b) 0 5 := by cases b <;> exact ⟨rfl, rfl, by simp [PyData.depth], by decide⟩
/-- a list whose parts are shown -/
theorem ShL.of {xs : List V} (f : V → PyData) (h : ∀ x ∈ xs, ShV H x (f x)) : ShL H xs (xs.map f) := by
  induction xs with
  | nil => exact .nil
  | cons x xs ih => exact .cons (h x (.head _)) (ih fun y hy => h y (.tail _ hy))
end
end L2

set_option Elab.async false
set_option linter.all false
set_option maxRecDepth 100000
set_option maxHeartbeats 4000000
namespace L2
open PySem PySem.Spec PyProof.Rows
/-! ### things of any kind: what can be read of the heap as data -/
mutual
def sml : PyData → Bool
  | .none | .bool _ | .int _ | .str _ => true
  | .list xs | .tuple xs => decide (xs.length ≤ 1000) && smlAll xs
  | .dict _ => false
def smlAll : List PyData → Bool
  | [] => true
  | x :: xs => sml x && smlAll xs
end
theorem smlAll_of : ∀ {ds : List PyData}, (∀ d ∈ ds, sml d = true) → smlAll ds = true
  | [], _ => rfl
  | d :: ds, h => by simp [smlAll, h d (.head _), smlAll_of fun x hx => h x (.tail _ hx)]
theorem smlAll_mem : ∀ {ds : List PyData}, smlAll ds = true → ∀ d ∈ ds, sml d = true
  | [], _, d, h => by cases h
  | x :: ds, h, d, hd => by
    simp only [smlAll, Bool.and_eq_true] at h
    rcases List.mem_cons.mp hd with rfl | hd
    · exact h.1
    · exact smlAll_mem h.2 d hd
section
variable {H H' : Hp} {K : PySem.W.Frag} {Q : VK}
theorem ShL.idx : ∀ {xs : List V} {ds : List PyData}, xs.length = ds.length → (∀ (i : Nat) x d, xs[i]? = some x → ds[i]? = some d → ShV H x d) → ShL H xs ds
  | [], [], _, _ => .nil
  | [], _ :: _, h, _ => by simp at h
  | _ :: _, [], h, _ => by simp at h
  | x :: xs, d :: ds, h, k => .cons (k 0 x d rfl rfl) (ShL.idx (by simpa using h) fun i y e h1 h2 => k (i + 1) y e (by simpa using h1) (by simpa using h2))
theorem ShL.get : ∀ {xs : List V} {ds : List PyData} (_ : ShL H xs ds) (i : Nat) (x : V), xs[i]? = some x → ∃ d, ds[i]? = some d ∧ ShV H x d
  | _, _, .nil, i, x, e => by simp at e
  | _, _, .cons a b, 0, x, e => by cases (show some _ = some x from e); exact ⟨_, rfl, a⟩
  | _, _, .cons a b, i + 1, x, e => by
    obtain ⟨d, e1, e2⟩ := ShL.get b i x (by simpa using e)
    exact ⟨d, by simpa using e1, e2⟩
theorem ShL.ex {P : PyData → Prop} : ∀ {xs : List V}, (∀ x ∈ xs, ∃ d, ShV H x d ∧ P d) → ∃ ds, ShL H xs ds ∧ ∀ d ∈ ds, P d
  | [], _ => ⟨[], .nil, fun _ h => by cases h⟩
  | x :: xs, h => by
    obtain ⟨d, h1, h2⟩ := h x (.head _)
    obtain ⟨ds, h3, h4⟩ := ShL.ex (xs := xs) fun y hy => h y (.tail _ hy)
    refine ⟨d :: ds, .cons h1 h3, fun e he => ?_⟩
    rcases List.mem_cons.mp he with rfl | he
    · exact h2
    · exact h4 e he
/-- readable: as data, small, with a text of at most m signs -/
def Rda (H : Hp) (v : V) (k m : Nat) : Prop := ∃ d, ShV H v d ∧ sml d = true ∧ Shows d k m
theorem Rda.up {v : V} {k m k' m' : Nat} (h : Rda H v k m) (h1 : k ≤ k' := by omega) (h2 : m ≤ m' := by omega) : Rda H v k' m' := by obtain ⟨d, a, b, c⟩ := h; exact ⟨d, a, b, c.up h1 h2⟩
theorem Rda.int {i : Int} (h : -(10 ^ 100) ≤ i) (h' : i ≤ 10 ^ 100) : Rda H (.int i) 0 1921 := ⟨_, .int i, rfl, Shows.int h h'⟩
theorem Rda.non : Rda H .non 0 1921 := ⟨_, .non, rfl, Shows.non.up (by omega) (by omega)⟩
theorem Rda.bl {b : Bool} : Rda H (.bl b) 0 1921 := ⟨_, .bl b, rfl, Shows.bl.up (by omega) (by omega)⟩
theorem Rda.lst {a : Addr} {xs : List V} {k m : Nat} (e : H a = some (.lst xs)) (l : xs.length ≤ 1000) (h : ∀ x ∈ xs, Rda H x k m) : Rda H (.ref a) (k + 1) (xs.length * (m + 2) + 4) := by
  obtain ⟨ds, h1, h2⟩ := ShL.ex (P := fun d => sml d = true ∧ Shows d k m) h
  have hl := h1.len
  refine ⟨.list ds, .lst e h1, ?_, ?_⟩
  · simp only [sml, Bool.and_eq_true, decide_eq_true_eq]
    exact ⟨by omega, smlAll_of fun d hd => (h2 d hd).1⟩
  · have := Shows.list (ds := ds) (k := k) (m := m) fun d hd => (h2 d hd).2
    rw [hl]
    exact this.up (Nat.le_refl _) (by omega)
/-! isinstance of any thing -/
def isD (n : String) : PyData → Bool
  | .none => false
  | .bool _ => n == "bool" || n == "int"
  | .int _ => n == "int"
  | .str _ => n == "str"
  | .list _ => n == "list"
  | .tuple _ => n == "tuple"
  | .dict _ => n == "dict"
theorem isiD_rd' {v : V} {d : PyData} {n : String} (h : ShV H v d) (hn : n = "int" ∨ n = "bool" ∨ n = "list" ∨ n = "tuple") (q : Q (.bl (isD n d)) H) : rIsiA K v (.ty n) H Q := by
  rcases hn with rfl | rfl | rfl | rfl <;> cases h
  all_goals first
    | exact isiN_rd q (by rfl)
    | exact isiB_rd q (by rfl)
    | exact isiI_rd q (by rfl)
    | exact isiS_rd q (by rfl)
    | (rename_i e l; exact isiL_rd e q (by rfl))
    | (rename_i e l; exact isiT_rd e q (by rfl))
end
end L2

set_option Elab.async false
set_option linter.all false
set_option maxRecDepth 100000
set_option maxHeartbeats 4000000
namespace L2
open PySem PySem.Spec PyProof.Rows
/-! ### x in a list or a tuple of flat things -/
section
variable {X : Cx} {K : PySem.W.Frag} {H : Hp} {Q : VK}
/-! ### str of any thing -/
end
end L2

set_option Elab.async false
set_option linter.all false
set_option maxRecDepth 100000
set_option maxHeartbeats 4000000
namespace L2
open PySem PySem.Spec PyProof.Rows PySem.W
/-! ### dicts with ints for keys -/
section
variable {X : Cx} {K : PySem.W.Frag} {H : Hp} {Q : VK}
/- {}: of either kind -/
@[irreducible] def rDNE (H : Hp) (Q : VK) : Prop := (∀ p H', H p = none → Same H H' → H' p = some (.dT []) → Q (.ref p) H') ∨ ∀ p H', H p = none → Same H H' → H' p = some (.dK []) → Q (.ref p) H'
def tDNE : TE := fun _ H Q => rDNE H Q
theorem peDNewE {pos : Pos} : PE X (.Dict [] [] pos) tDNE := fun pins s σ H Q I h => by
  unfold tDNE rDNE at h
  rcases h with h | h
  · exact pe_dnewT (pos := pos) pins s σ H Q I fun p hp => h p _ hp (Same.upd hp) upd_same
  · exact pe_dnewK (pos := pos) pins s σ H Q I fun p hp => h p _ hp (Same.upd hp) upd_same
theorem dnT_rd (q : ∀ p H', H p = none → Same H H' → H' p = some (.dT []) → Q (.ref p) H') : rDNE H Q := by unfold rDNE; exact .inl q
theorem dnK_rd (q : ∀ p H', H p = none → Same H H' → H' p = some (.dK []) → Q (.ref p) H') : rDNE H Q := by unfold rDNE; exact .inr q
theorem isdK_rd {a : Addr} {P : Prop} {kvs : List (Key × V)} (e : H a = some (.dK kvs)) (p : P) : rIsD a H P := by unfold rIsD; exact ⟨.inl ⟨kvs, .inl e⟩, p⟩
theorem dg2K_rd {a : Addr} {i : Int} {z : V} {kvs : List (Key × V)} (e : H a = some (.dK kvs)) (q : Q ((valV kvs (.inl i)).getD z) H) : rDG2 a (.int i) z H Q := by
  unfold rDG2
  exact ⟨_, DGet.k (k := .inl i) e, q⟩
theorem dpK_rd {a : Addr} {i : Int} {v : V} {N : Hp → Prop} {kvs : List (Key × V)} (e : H a = some (.dK kvs)) (hl : kvs.length < sizeLine) (q : ∀ H', Chg a H H' → H' a = some (.dK (putK kvs (.inl i) v)) → N H') : rDP a (.int i) v H N := by
  unfold rDP
  exact ⟨_, DPut.k (k := .inl i) e hl, q _ Chg.upd upd_same⟩
/- ints under ints -/
def dI (kv : List (Int × Int)) : List (Key × V) := kv.map fun z => (.inl z.1, .int z.2)
def valI (kv : List (Int × Int)) (i : Int) : Option Int := (kv.find? fun z => decide (z.1 = i)).map (·.2)
theorem valV_dI (i : Int) : ∀ kv : List (Int × Int), valV (dI kv) (.inl i) = (valI kv i).map V.int
  | [] => rfl
  | z :: kv => by
    by_cases e : z.1 = i
    · show valV (((.inl z.1 : Key), V.int z.2) :: dI kv) (.inl i) = _
      rw [valV_pos (by exact congrArg Sum.inl e)]
      unfold valI
      rw [List.find?_cons, decide_eq_true e]; rfl
    · show valV (((.inl z.1 : Key), V.int z.2) :: dI kv) (.inl i) = _
      rw [valV_neg (by exact fun q => e (Sum.inl.inj q)), valV_dI i kv]
      unfold valI
      rw [List.find?_cons, decide_eq_false e]
def eqDI (ka kb : List (Int × Int)) : Bool := ka.length == kb.length && ka.all fun z => valI kb z.1 == some z.2
theorem hits_dI {A : Around} {s : Shared} {kb : List (Int × Int)} {ws : List (Key × Value)} (rb : KV (dI kb) ws) : ∀ {ka : List (Int × Int)} {vs : List (Key × Value)}, KV (dI ka) vs → KeqHits A s ws vs (ka.all fun z => valI kb z.1 == some z.2)
  | [], vs, r => by
    unfold KV dI at r
    cases r
    exact .nil
  | z :: ka, vs, r => by
    unfold KV dI at r
    rw [List.map_cons] at r
    cases r with
    | @cons p q ps qs h t =>
      obtain ⟨h1, h2⟩ := h
      obtain ⟨k, v⟩ := q
      cases (show (Sum.inl z.1 : Key) = k from h1)
      have val := rb.val (.inl z.1)
      rw [valV_dI] at val
      rw [List.all_cons]
      cases e : valI kb z.1 with
      | none =>
        rw [e] at val
        have : valueAt ws (.inl z.1) = none := by
          cases w : valueAt ws (.inl z.1) with
          | none => rfl
          | some y => rw [w] at val; exact val.elim
        have f : ((none : Option Int) == some z.2) = false := rfl
        rw [f, Bool.false_and]
        exact .miss this
      | some n =>
        rw [e] at val
        obtain ⟨y, ey, ry⟩ : ∃ y, valueAt ws (.inl z.1) = some y ∧ RelV (.int n) y := by
          cases w : valueAt ws (.inl z.1) with
          | none => rw [w] at val; exact val.elim
          | some y => rw [w] at val; exact ⟨y, rfl, val⟩
        have q := eqAt_V (A := A) (s := s) (show RelV (.int z.2) v from h2) ry rfl rfl
        have e2 : eqV (.int z.2) (.int n) = (some n == some z.2) := by
          by_cases d : z.2 = n
          · subst d; simp [eqV]
          · have d' : ¬ n = z.2 := fun x => d x.symm
            show (z.2 == n) = (some n == some z.2)
            rw [beq_eq_false_iff_ne.mpr d]
            exact (beq_eq_false_iff_ne.mpr fun x => d' (Option.some.inj x)).symm
        rw [e2] at q
        exact .hit ey q (hits_dI rb t)
/-! ### == of lists and tuples, of dicts of ints, of things of any kind -/
@[irreducible] def rEqX (K : PySem.W.Frag) (x y : V) (H : Hp) (Q : VK) : Prop :=
  (∃ a b n c, x = .ref a ∧ y = .ref b ∧ n ≤ 40 ∧ EqR K H n (.ref a) (.ref b) c ∧ Q (.bl c) H) ∨
  (∃ a b ka kb, x = .ref a ∧ y = .ref b ∧ H a = some (.dK (dI ka)) ∧ H b = some (.dK (dI kb)) ∧ Q (.bl (eqDI ka kb)) H) ∨
  ∃ d e, ShV H x d ∧ ShV H y e ∧ d.canLay0 = true ∧ e.canLay0 = true ∧ d.depth ≤ 40 ∧ Q (.bl (PyData.eqv d e)) H
def rEqXM (K : PySem.W.Frag) : R2 := fun x y H Q => match x, y with
  | .int i, .int j => Q (.bl (decide (i = j))) H
  | .bl i, .bl j => Q (.bl (decide (i = j))) H
  | .str i, .str j => Q (.bl (decide (i = j))) H
  | x, y => rEqX K x y H Q
def rNeXM (K : PySem.W.Frag) : R2 := fun x y H Q => rEqXM K x y H fun v H' => match v with
  | .bl b => Q (.bl (!b)) H'
  | _ => False
theorem oEqX (hu : X.A.units + 40 < cLine) : OpR X (compareOp .Eq) (rEqXM X.K) := by
  intro pins s σ H x y v u Q I rx ry h
  unfold rEqXM at h
  split at h
  · exact op_eq pins s σ H _ _ v u Q I rx ry ⟨rfl, by rw [dec_inj (f := V.int) fun a b e => V.int.inj e]; exact h⟩
  · exact op_eq pins s σ H _ _ v u Q I rx ry ⟨rfl, by rw [dec_inj (f := V.bl) fun a b e => V.bl.inj e]; exact h⟩
  · exact op_eq pins s σ H _ _ v u Q I rx ry ⟨rfl, by rw [dec_inj (f := V.str) fun a b e => V.str.inj e]; exact h⟩
  · unfold rEqX at h
    rcases h with ⟨a, b, n, c, rfl, rfl, hn, h1, h2⟩ | ⟨a, b, ka, kb, rfl, rfl, ea, eb, h⟩ | ⟨d, e, hd, he, cd, ce, dd, h⟩
    · cases rx
      cases ry
      exact EqR.rc I h1 (A := X.A) (by omega) _ _ _ _ ⟨.bl c, H, I, rfl, h2⟩
    · cases rx
      cases ry
      obtain ⟨_, sa, vs, ra, da⟩ := dk_of I.hok ea
      obtain ⟨_, sb, ws, rb, db⟩ := dk_of I.hok eb
      refine keq_eq sa sb da db (by omega) (fun _ => hits_dI rb ra) ⟨.bl (eqDI ka kb), H, I, ?_, h⟩
      have la : vs.length = ka.length := by rw [← ra.length]; unfold dI; rw [List.length_map]
      have lb : ws.length = kb.length := by rw [← rb.length]; unfold dI; rw [List.length_map]
      rw [la, lb]
      rfl
    · obtain ⟨as, r1⟩ := hd.reads I rx
      obtain ⟨bs, r2⟩ := he.reads I ry
      exact SeqAt.compareEq_reads r1 r2 cd ce (by have := Nat.min_le_left d.depth e.depth; omega) ⟨.bl (PyData.eqv d e), H, I, rfl, h⟩
theorem oNeX (hu : X.A.units + 40 < cLine) : OpR X (compareOp .NotEq) (rNeXM X.K) := by
  intro pins s σ H x y v u Q I rx ry h
  unfold rNeXM rEqXM at h
  split at h
  · exact op_ne pins s σ H _ _ v u Q I rx ry ⟨rfl, by rw [dec_inj (f := V.int) fun a b e => V.int.inj e]; exact h⟩
  · exact op_ne pins s σ H _ _ v u Q I rx ry ⟨rfl, by rw [dec_inj (f := V.bl) fun a b e => V.bl.inj e]; exact h⟩
  · exact op_ne pins s σ H _ _ v u Q I rx ry ⟨rfl, by rw [dec_inj (f := V.str) fun a b e => V.str.inj e]; exact h⟩
  · unfold rEqX at h
    rcases h with ⟨a, b, n, c, rfl, rfl, hn, h1, h2⟩ | ⟨a, b, ka, kb, rfl, rfl, ea, eb, h⟩ | ⟨d, e, hd, he, cd, ce, dd, h⟩
    · cases rx
      cases ry
      exact EqR.rcNe I h1 (A := X.A) (by omega) _ _ _ _ ⟨.bl (!c), H, I, rfl, h2⟩
    · cases rx
      cases ry
      obtain ⟨_, sa, vs, ra, da⟩ := dk_of I.hok ea
      obtain ⟨_, sb, ws, rb, db⟩ := dk_of I.hok eb
      refine keq_ne sa sb da db (by omega) (fun _ => hits_dI rb ra) ⟨.bl (!eqDI ka kb), H, I, ?_, h⟩
      have la : vs.length = ka.length := by rw [← ra.length]; unfold dI; rw [List.length_map]
      have lb : ws.length = kb.length := by rw [← rb.length]; unfold dI; rw [List.length_map]
      rw [la, lb]
      rfl
    · obtain ⟨as, r1⟩ := hd.reads I rx
      obtain ⟨bs, r2⟩ := he.reads I ry
      exact SeqAt.compareNe_reads r1 r2 cd ce (by have := Nat.min_le_left d.depth e.depth; omega) ⟨.bl (!PyData.eqv d e), H, I, rfl, h⟩
theorem eqX_rd {a b : Addr} {n : Nat} {c : Bool} (h : EqR K H n (.ref a) (.ref b) c) (q : Q (.bl c) H) (hn : n ≤ 40 := by decide) : rEqX K (.ref a) (.ref b) H Q := by unfold rEqX; exact .inl ⟨a, b, n, c, rfl, rfl, hn, h, q⟩
theorem eqD_rd {a b : Addr} {ka kb : List (Int × Int)} (ea : H a = some (.dK (dI ka))) (eb : H b = some (.dK (dI kb))) (q : Q (.bl (eqDI ka kb)) H) : rEqX K (.ref a) (.ref b) H Q := by unfold rEqX; exact .inr (.inl ⟨a, b, ka, kb, rfl, rfl, ea, eb, q⟩)
theorem eqS_rd {x y : V} {d e : PyData} (hd : ShV H x d) (he : ShV H y e) (cd : d.canLay0 = true) (ce : e.canLay0 = true) (dd : d.depth ≤ 40) (q : Q (.bl (PyData.eqv d e)) H) : rEqX K x y H Q := by unfold rEqX; exact .inr (.inr ⟨d, e, hd, he, cd, ce, dd, q⟩)
end
end L2

set_option Elab.async false
set_option linter.all false
set_option maxRecDepth 100000
set_option maxHeartbeats 4000000
namespace L2
open PySem PySem.Spec PyProof.Rows PySem.W
/-! ### < of two pairs of ints -/
theorem tuple_lt2 (l b : Addr) (x y : Int × Int) (t u t' u' : Tok) (n n2 : Nat) (dd dd2 : Option Addr) (sl sl2 : Array (Option Value)) :
    Meets (Builtin.«tuple.__lt__» ⟨[.ref l, .ref b], []⟩)
      (fun A R s => s.heap.get? l = some { cls := .type "tuple", dict := dd, data := .seq #[.int x.1 t, .int x.2 u] n, slots := sl } ∧ s.heap.get? b = some { cls := .type "tuple", dict := dd2, data := .seq #[.int y.1 t', .int y.2 u'] n2, slots := sl2 } ∧
        R (.ok (.ret (.bool (ltP x y)))) s) :=
  .of_wp fun prog w A R s h => by
    obtain ⟨hp, g, d, tk, os⟩ := s; obtain ⟨hl, hb, h⟩ := h
    have f2 := AutoSeq1.sub_tuple_tuple
    wp_walk using wpAny_loadPart' hl, wpAny_loadPart' hb, wpAny_forIn_list _ (fun rest b s' => b.1 = none ∧ s' = ⟨hp, g, d, tk, os⟩ ∧ (rest = [(.int x.1 t, .int y.1 t'), (.int x.2 u, .int y.2 u')] ∨ (x.1 = y.1 ∧ rest = [(.int x.2 u, .int y.2 u')]) ∨ (x.1 = y.1 ∧ x.2 = y.2 ∧ rest = []))) _
    case turn =>
      rintro ⟨p, q⟩ rest b s' ⟨hb', rfl, hz⟩
      rcases hz with hz | ⟨e0, hz⟩ | ⟨_, _, hz⟩
      · cases hz
        refine wpAny_bind (wpAny_eqBool_int ?_)
        cases e : (x.1 == y.1)
        · have h' : R (Except.ok (Flow.ret (Value.bool (decide (x.1 < y.1))))) ⟨hp, g, d, tk, os⟩ := by
            unfold ltP at h
            rw [if_neg (by rw [e]; exact Bool.false_ne_true)] at h
            exact h
          simp only [Bool.not_false, if_true]
          refine wpAny_bind (wpAny_rule ?_)
          refine wpAny_bind ((lt_int (Q := _) ?_ : wpAny _ _ (compareOp .Lt _ _) _ _ _))
          wp_walk
          exact ⟨_, rfl, h'⟩
        · wp_walk
          exact ⟨rfl, rfl, .inr (.inl ⟨by simpa using e, rfl⟩)⟩
      · cases hz
        refine wpAny_bind (wpAny_eqBool_int ?_)
        cases e : (x.2 == y.2)
        · have h' : R (Except.ok (Flow.ret (Value.bool (decide (x.2 < y.2))))) ⟨hp, g, d, tk, os⟩ := by
            unfold ltP at h
            rw [if_pos (by rw [e0]; exact beq_self_eq_true _), if_neg (by rw [e]; exact Bool.false_ne_true)] at h
            exact h
          simp only [Bool.not_false, if_true]
          refine wpAny_bind (wpAny_rule ?_)
          refine wpAny_bind ((lt_int (Q := _) ?_ : wpAny _ _ (compareOp .Lt _ _) _ _ _))
          wp_walk
          exact ⟨_, rfl, h'⟩
        · wp_walk
          exact ⟨rfl, rfl, .inr (.inr ⟨e0, by simpa using e, rfl⟩)⟩
      · cases hz
    case fin =>
      rintro ⟨b1, b2⟩ s' ⟨hb', rfl, hz⟩
      simp only at hb'
      subst hb'
      rcases hz with hz | ⟨e0, hz⟩ | ⟨e0, e1, hz⟩
      · cases hz
      · cases hz
      · have h' : R (Except.ok (Flow.ret (Value.bool false))) ⟨hp, g, d, tk, os⟩ := by
          unfold ltP at h
          rw [if_pos (by rw [e0]; exact beq_self_eq_true _), if_pos (by rw [e1]; exact beq_self_eq_true _)] at h
          exact h
        wp_walk
        exact ⟨_, rfl, h'⟩
    exact ⟨rfl, rfl, .inl rfl⟩
section
variable {prog : Program} {w : World} {A : Around} {E : Value → Shared → Prop} {s : Shared}
theorem lt_pairs {v v' : Value} {x y : Int × Int} {Q : Value → Shared → Prop} (ha : TupI s.heap v x) (hb : TupI s.heap v' y) (hu : A.units < cLine) (h : Q (.bool (ltP x y)) s) : wpAny (model prog w) A (compareOp .Lt v v') Q E s := by
  obtain ⟨a, ⟨cls, dd, data, sl⟩, t, u, n, rfl, ho, hc, hd⟩ := ha
  obtain ⟨b, ⟨cls2, dd2, data2, sl2⟩, t', u', n2, rfl, ho2, hc2, hd2⟩ := hb
  simp only at hc hd hc2 hd2
  subst hc hd hc2 hd2
  exact richCompare_meets_room (op := .Lt) ⟨_, ho, rfl⟩ ⟨_, ho2, rfl⟩ F.slot_tuple_lt F.entry_tuple_lt (F.args_tuple_lt_2 _ _) (tuple_lt2 a b x y t u t' u' n n2 dd dd2 sl sl2)
    ⟨ho, ho2, show Value.bool (ltP x y) ≠ Value.notImplemented ∧ Q (.bool (ltP x y)) s from ⟨(fun x => nomatch x), h⟩⟩ hu
end
section
variable {X : Cx} {K : PySem.W.Frag} {H : Hp} {Q : VK}
def pV (x : Int × Int) : List V := [.int x.1, .int x.2]
@[irreducible] def rLtA (a b : Addr) (H : Hp) (Q : VK) : Prop := ∃ x y : Int × Int, H a = some (.tup (pV x)) ∧ H b = some (.tup (pV y)) ∧ Q (.bl (ltP x y)) H
def rLtXM : R2 := fun x y H Q => match x, y with
  | .int i, .int j => Q (.bl (decide (i < j))) H
  | .ref a, .ref b => rLtA a b H Q
  | _, _ => False
theorem tupI_of {pins : List (Addr × Obj)} {σ : St} {H : Hp} {s : Shared} {a : Addr} {x : Int × Int} (I : Inv X pins σ H s) (h : H a = some (.tup (pV x))) : TupI s.heap (.ref a) x := by
  obtain ⟨_, its, rv, o, h1, h2, n, h3⟩ := (show ObjOk X.prog X.w H s.heap a (.tup (pV x)) from I.hok a _ h)
  unfold pV at rv
  cases rv with
  | cons r1 rv =>
    cases rv with
    | cons r2 rv =>
      cases rv
      obtain ⟨t, rfl⟩ := r1
      obtain ⟨u, rfl⟩ := r2
      exact ⟨a, o, t, u, n, rfl, h1, h2, h3⟩
theorem oLtX (hu : X.A.units + 40 < cLine) : OpR X (compareOp .Lt) rLtXM := by
  intro pins s σ H x y v u Q I rx ry h
  unfold rLtXM at h
  split at h
  · exact op_lt pins s σ H _ _ v u Q I rx ry ⟨_, _, rfl, rfl, h⟩
  · unfold rLtA at h
    obtain ⟨x, y, ea, eb, h⟩ := h
    cases rx
    cases ry
    exact lt_pairs (tupI_of I ea) (tupI_of I eb) (by omega) ⟨.bl (ltP x y), H, I, rfl, h⟩
  · exact h.elim
theorem ltP_rd {a b : Addr} {x y : Int × Int} (ha : H a = some (.tup (pV x))) (hb : H b = some (.tup (pV y))) (q : Q (.bl (ltP x y)) H) : rLtA a b H Q := by unfold rLtA; exact ⟨x, y, ha, hb, q⟩
/-! ### a slice of a list or of a tuple -/
@[irreducible] def rSlX (K : PySem.W.Frag) (a : Addr) (lo hi : Option Int) (H : Hp) (Q : VK) : Prop := (∃ xs, SqL K H a xs ∧ ∀ p H', H p = none → Same H H' → H' p = some (.lst (cutV xs lo hi)) → Q (.ref p) H') ∨
  ∃ xs, SqT K H a xs ∧ ¬ (HT.sIx xs.length 0 lo = 0 ∧ HT.sIx xs.length xs.length hi = xs.length) ∧ ∀ p H', H p = none → Same H H' → H' p = some (.tup (cutV xs lo hi)) → Q (.ref p) H'
def rSlXM (K : PySem.W.Frag) : V → Option Int → Option Int → Hp → VK → Prop := fun x lo hi H Q => match x with
  | .ref a => rSlX K a lo hi H Q
  | _ => False
theorem slX : SlR X (rSlXM X.K) := by
  intro pins s σ H x v vl vu lo hi sl Q I rx hs pl pu h
  unfold rSlXM at h
  split at h
  · unfold rSlX at h
    rcases h with ⟨xs, h1, q⟩ | ⟨xs, h1, h2, q⟩
    · exact sl_list pins s σ H _ v vl vu lo hi sl Q I rx hs pl pu ⟨_, xs, rfl, h1, fun p hp => q p _ hp (Same.upd hp) upd_same⟩
    · exact sl_tup pins s σ H _ v vl vu lo hi sl Q I rx hs pl pu ⟨_, xs, rfl, h1, h2, fun p hp => q p _ hp (Same.upd hp) upd_same⟩
  · exact h.elim
theorem slL_rd {a : Addr} {xs : List V} {lo hi : Option Int} (h : SqL K H a xs) (q : ∀ p H', H p = none → Same H H' → H' p = some (.lst (cutV xs lo hi)) → Q (.ref p) H') : rSlX K a lo hi H Q := by unfold rSlX; exact .inl ⟨xs, h, q⟩
theorem sl3_rd {a : Addr} {x y z : V} (h : H a = some (.tup [x, y, z])) (q : ∀ p H', H p = none → Same H H' → H' p = some (.tup [x, y]) → Q (.ref p) H') : rSlX K a none (some 2) H Q := by
  unfold rSlX
  exact .inr ⟨[x, y, z], SqT.of h, (by decide : ¬ (HT.sIx 3 0 none = 0 ∧ HT.sIx 3 3 (some 2) = 3)), q⟩
theorem oEqXK (hK : X.K = K) (hu : X.A.units + 40 < cLine) : OpR X (compareOp .Eq) (rEqXM K) := by subst hK; exact oEqX hu
theorem oNeXK (hK : X.K = K) (hu : X.A.units + 40 < cLine) : OpR X (compareOp .NotEq) (rNeXM K) := by subst hK; exact oNeX hu
theorem slXK (hK : X.K = K) : SlR X (rSlXM K) := by subst hK; exact slX
/-! ### is and is not of bools and of None -/
def rIsXM : R2 := fun x y H Q => match x, y with
  | .bl i, .bl j => Q (.bl (decide (i = j))) H
  | x, .non => Q (.bl (decide (x = .non))) H
  | _, _ => False
def rIsNotXM : R2 := fun x y H Q => match x, y with
  | .bl i, .bl j => Q (.bl (!decide (i = j))) H
  | x, .non => Q (.bl (!decide (x = .non))) H
  | _, _ => False
theorem same_bools (i j : Bool) : isSame (.bool i) (.bool j) = pure (decide (i = j)) := by cases i <;> cases j <;> rfl
theorem oIsNotX : OpR X (compareOp .IsNot) rIsNotXM := by
  intro pins s σ H x y v u Q I rx ry h
  unfold rIsNotXM at h
  split at h
  · rename_i i j
    cases (show v = Value.bool i from rx)
    cases (show u = Value.bool j from ry)
    show wpAny _ _ (isSame (.bool i) (.bool j) >>= fun b => pure (Value.bool (!b))) _ _ s
    rw [same_bools]
    exact wpAny_bind (wpAny_pure (wpAny_pure ⟨.bl (!decide (i = j)), H, I, rfl, h⟩))
  · exact op_notN pins s σ H _ _ v u Q I rx ry ⟨rfl, h⟩
  · exact h.elim
/-- zip of two lists, as long as the shorter one -/
theorem Wk.zipN {a b : Addr} {xs ys : List V} {n : Nat} {H1 : Hp} (h : SqL K H1 a xs) (h' : SqL K H1 b ys) (hx : n ≤ xs.length) (hy : n ≤ ys.length) (hn : xs.length = n ∨ ys.length = n) : Wk (Itz K a b) n H1 fun i v H => ∃ p x y, v = .ref p ∧ H p = some (.tup [x, y]) ∧ xs[i]? = some x ∧ ys[i]? = some y :=
  ⟨fun i H s hi => ⟨xs, ys, xs[i], ys[i], s.seq h, s.seq h', by simp, by simp⟩, fun H s => ⟨xs, ys, s.seq h, s.seq h', by omega⟩, fun i H v H' s _ y => by
    obtain ⟨p, x, y, rfl, y1, y2, y3, y4, y5⟩ := y
    exact ⟨y2, p, x, y, rfl, y3, y4 xs (s.seq h), y5 ys (s.seq h')⟩⟩
end
end L2

set_option Elab.async false
set_option linter.all false
set_option maxRecDepth 100000
set_option maxHeartbeats 1000000
namespace G
open PySem L2
def top (i : Nat) : Stmt := PySem.Challenge.pw_hostfields_k20_streams_of_mixes.main.body.getD i (.Pass ⟨0, 0, 0, 0⟩)
abbrev s_is_whole : Stmt := top 10
theorem sc_is_whole : FnScope ["thing"] ["thing"] (defScope s_is_whole) := ⟨rfl, rfl, rfl, by decide +kernel, rfl, by decide +kernel, by decide +kernel⟩
abbrev s_is_from : Stmt := top 11
theorem sc_is_from : FnScope ["thing", "least"] ["thing", "least"] (defScope s_is_from) := ⟨rfl, rfl, rfl, by decide +kernel, rfl, by decide +kernel, by decide +kernel⟩
abbrev s_is_between : Stmt := top 12
theorem sc_is_between : FnScope ["thing", "least", "most"] ["thing", "least", "most"] (defScope s_is_between) := ⟨rfl, rfl, rfl, by decide +kernel, rfl, by decide +kernel, by decide +kernel⟩
abbrev s_is_plan : Stmt := top 16
theorem sc_is_plan : FnScope ["hosts", "fields", "plan"] ["hosts", "fields", "plan"] (defScope s_is_plan) := ⟨rfl, rfl, rfl, by decide +kernel, rfl, by decide +kernel, by decide +kernel⟩
abbrev s_sends_hosts : Stmt := top 17
theorem sc_sends_hosts : FnScope ["plan"] ["plan"] (defScope s_sends_hosts) := ⟨rfl, rfl, rfl, by decide +kernel, rfl, by decide +kernel, by decide +kernel⟩
abbrev s_is_size : Stmt := top 18
theorem sc_is_size : FnScope ["hosts", "fields"] ["hosts", "fields"] (defScope s_is_size) := ⟨rfl, rfl, rfl, by decide +kernel, rfl, by decide +kernel, by decide +kernel⟩
abbrev s_is_mix : Stmt := top 20
theorem sc_is_mix : FnScope ["mix", "hosts", "fields"] ["mix"] (defScope s_is_mix) := ⟨rfl, rfl, rfl, by decide +kernel, rfl, by decide +kernel, by decide +kernel⟩
abbrev s_is_part : Stmt := top 21
theorem sc_is_part : FnScope ["part"] ["part"] (defScope s_is_part) := ⟨rfl, rfl, rfl, by decide +kernel, rfl, by decide +kernel, by decide +kernel⟩
abbrev s_look_mix : Stmt := top 22
theorem sc_look_mix : FnScope ["mix"] ["mix"] (defScope s_look_mix) := ⟨rfl, rfl, rfl, by decide +kernel, rfl, by decide +kernel, by decide +kernel⟩
abbrev s_is_stream : Stmt := top 23
theorem sc_is_stream : FnScope ["hosts", "fields", "stream", "comes_full", "goes_empty"] ["hosts", "fields", "stream"] (defScope s_is_stream) := ⟨rfl, rfl, rfl, by decide +kernel, rfl, by decide +kernel, by decide +kernel⟩
abbrev s_begins : Stmt := top 24
theorem sc_begins : FnScope ["stream"] ["stream"] (defScope s_begins) := ⟨rfl, rfl, rfl, by decide +kernel, rfl, by decide +kernel, by decide +kernel⟩
abbrev s_is_row : Stmt := top 25
theorem sc_is_row : FnScope ["row"] ["row"] (defScope s_is_row) := ⟨rfl, rfl, rfl, by decide +kernel, rfl, by decide +kernel, by decide +kernel⟩
abbrev s_is_flow : Stmt := top 26
theorem sc_is_flow : FnScope ["thing"] ["thing"] (defScope s_is_flow) := ⟨rfl, rfl, rfl, by decide +kernel, rfl, by decide +kernel, by decide +kernel⟩
abbrev s_meets : Stmt := top 27
theorem sc_meets : FnScope ["ahead", "row", "leaving"] ["ahead", "row"] (defScope s_meets) := ⟨rfl, rfl, rfl, by decide +kernel, rfl, by decide +kernel, by decide +kernel⟩
abbrev s_summed : Stmt := top 28
theorem sc_summed : FnScope ["pairs", "sums", "key", "amount"] ["pairs"] (defScope s_summed) := ⟨rfl, rfl, rfl, by decide +kernel, rfl, by decide +kernel, by decide +kernel⟩
abbrev s_stream_of : Stmt := top 29
theorem sc_stream_of : FnScope ["mix"] ["mix"] (defScope s_stream_of) := ⟨rfl, rfl, rfl, by decide +kernel, rfl, by decide +kernel, by decide +kernel⟩
abbrev s_row_of : Stmt := top 30
theorem sc_row_of : FnScope ["mix", "field", "flows"] ["mix", "field"] (defScope s_row_of) := ⟨rfl, rfl, rfl, by decide +kernel, rfl, by decide +kernel, by decide +kernel⟩
abbrev s__law_mix : Stmt := top 32
theorem sc__law_mix : FnScope ["_law_number", "_law_k", "_law_mixed"] ["_law_number", "_law_k"] (defScope s__law_mix) := ⟨rfl, rfl, rfl, by decide +kernel, rfl, by decide +kernel, by decide +kernel⟩
abbrev s__law_cell_at : Stmt := top 33
theorem sc__law_cell_at : FnScope ["_law_script", "_law_k"] ["_law_script", "_law_k"] (defScope s__law_cell_at) := ⟨rfl, rfl, rfl, by decide +kernel, rfl, by decide +kernel, by decide +kernel⟩
abbrev s__law_left : Stmt := top 34
theorem sc__law_left : FnScope ["_law_script", "_law_k", "_law_cell"] ["_law_script", "_law_k"] (defScope s__law_left) := ⟨rfl, rfl, rfl, by decide +kernel, rfl, by decide +kernel, by decide +kernel⟩
abbrev s__law_draw : Stmt := top 35
theorem sc__law_draw : FnScope ["_law_left_here", "_law_base", "_law_mixed", "_law_digit"] ["_law_left_here", "_law_base"] (defScope s__law_draw) := ⟨rfl, rfl, rfl, by decide +kernel, rfl, by decide +kernel, by decide +kernel⟩
abbrev s__law_plan : Stmt := top 36
theorem sc__law_plan : FnScope ["_law_left_here", "_law_hosts", "_law_many", "_law_plan_here", "_law_rest", "_law_k", "_law_at"] ["_law_left_here", "_law_hosts", "_law_many"] (defScope s__law_plan) := ⟨rfl, rfl, rfl, by decide +kernel, rfl, by decide +kernel, by decide +kernel⟩
abbrev s__law_lot : Stmt := top 37
theorem sc__law_lot : FnScope ["_law_left_here", "_law_most", "_law_fields", "_law_parts", "_law_hosts", "_law_many", "_law_mix_here", "_law_k", "_law_weight"] ["_law_left_here", "_law_most", "_law_fields", "_law_parts"] (defScope s__law_lot) := ⟨rfl, rfl, rfl, by decide +kernel, rfl, by decide +kernel, by decide +kernel⟩
abbrev s__law_flows : Stmt := top 38
theorem sc__law_flows : FnScope ["_law_mix_here", "_law_flows_here", "_law_plan_here", "_law_weight", "_law_k", "_law_spot"] ["_law_mix_here"] (defScope s__law_flows) := ⟨rfl, rfl, rfl, by decide +kernel, rfl, by decide +kernel, by decide +kernel⟩
abbrev s__law_deep : Stmt := top 39
theorem sc__law_deep : FnScope ["_law_thing"] ["_law_thing"] (defScope s__law_deep) := ⟨rfl, rfl, rfl, by decide +kernel, rfl, by decide +kernel, by decide +kernel⟩
abbrev s__law_bent : Stmt := top 40
theorem sc__law_bent : FnScope ["_law_left_here", "_law_mix_here", "_law_at", "_law_plan_here", "_law_weight", "_law_k", "_law_choice", "_law_parts", "_law_far"] ["_law_left_here", "_law_mix_here"] (defScope s__law_bent) := ⟨rfl, rfl, rfl, by decide +kernel, rfl, by decide +kernel, by decide +kernel⟩
abbrev s__law_is_mix : Stmt := top 41
theorem sc__law_is_mix : FnScope ["_law_mix_here", "_law_sizes", "_law_part", "_law_number"] ["_law_mix_here"] (defScope s__law_is_mix) := ⟨rfl, rfl, rfl, by decide +kernel, rfl, by decide +kernel, by decide +kernel⟩
abbrev s__law_refused : Stmt := top 42
theorem sc__law_refused : FnScope ["_law_mix_here", "_law_caught", "e"] ["_law_mix_here"] (defScope s__law_refused) := ⟨rfl, rfl, rfl, by decide +kernel, rfl, by decide +kernel, by decide +kernel⟩
abbrev s_law : Stmt := top 43
theorem sc_law : FnScope ["_law_script", "_law_cell", "_law_left_here", "_law_mix_here", "_law_handed", "_law_due", "_law_turn", "_law_told", "_law_k", "_law_first"] ["_law_script"] (defScope s_law) := ⟨rfl, rfl, rfl, by decide +kernel, rfl, by decide +kernel, by decide +kernel⟩
theorem nb_0 : (["sent"] : List Str).Nodup := by decide +kernel
theorem nb_1 : (["part"] : List Str).Nodup := by decide +kernel
theorem nb_2 : (["plan", "weight", "hosts", "fields"] : List Str).Nodup := by decide +kernel
theorem nb_3 : (["thing"] : List Str).Nodup := by decide +kernel
theorem nb_4 : (["one", "other"] : List Str).Nodup := by decide +kernel
theorem nb_5 : (["left", "sent", "flow"] : List Str).Nodup := by decide +kernel
theorem nb_6 : (["row"] : List Str).Nodup := by decide +kernel
theorem nb_7 : (["left", "sent", "flow", "hosts"] : List Str).Nodup := by decide +kernel
theorem nb_8 : (["left", "sent", "flow"] : List Str).Nodup := by decide +kernel
theorem nb_9 : (["ahead", "row"] : List Str).Nodup := by decide +kernel
theorem nb_10 : (["plan", "weight", "field"] : List Str).Nodup := by decide +kernel
theorem nb_11 : (["left", "sent", "flows"] : List Str).Nodup := by decide +kernel
theorem nb_12 : (["field", "mix"] : List Str).Nodup := by decide +kernel
theorem nb_13 : (["_law_place"] : List Str).Nodup := by decide +kernel
theorem nb_14 : (["_law_flow"] : List Str).Nodup := by decide +kernel
theorem nb_15 : (["_law_rest", "_law_sent", "_law_flow"] : List Str).Nodup := by decide +kernel
theorem nb_16 : (["_law_part"] : List Str).Nodup := by decide +kernel
theorem nb_17 : (["_law_row"] : List Str).Nodup := by decide +kernel
structure Cz (K : PySem.W.Frag) (mg : Str → Option Value) (base : Heap) (a_HostError a_NoBattle a_NoPlan a_NoMix a_NoStream a_NoSide a_NoAlike a_NoNumber : Addr) : Prop where
  g_HostError : mg "HostError" = some (.ref a_HostError)
  g_NoBattle : mg "NoBattle" = some (.ref a_NoBattle)
  g_NoPlan : mg "NoPlan" = some (.ref a_NoPlan)
  g_NoMix : mg "NoMix" = some (.ref a_NoMix)
  g_NoStream : mg "NoStream" = some (.ref a_NoStream)
  g_NoSide : mg "NoSide" = some (.ref a_NoSide)
  g_NoAlike : mg "NoAlike" = some (.ref a_NoAlike)
  g_NoNumber : mg "NoNumber" = some (.ref a_NoNumber)
  o_NoMix : PyProof.Rows.OwnCls "NoMix" a_NoMix bmV newV mg base
  k_NoMix : ExcK K a_NoMix
  c_NoMix : (PySem.W.clsIn K a_NoMix).isSome = true
  m_NoMix : PySem.W.exmOne K (.ref a_NoMix) (.ref a_HostError) = some true
  v_NoMix : PySem.W.kitOne K (.ref a_NoMix) (.type "ValueError") = some true
  i_NoMix_HostError : PySem.W.kitOne K (.ref a_NoMix) (.ref a_HostError) = some true
  i_NoMix_NoBattle : PySem.W.kitOne K (.ref a_NoMix) (.ref a_NoBattle) = some false
  i_NoMix_NoPlan : PySem.W.kitOne K (.ref a_NoMix) (.ref a_NoPlan) = some false
  i_NoMix_NoMix : PySem.W.kitOne K (.ref a_NoMix) (.ref a_NoMix) = some true
  i_NoMix_NoStream : PySem.W.kitOne K (.ref a_NoMix) (.ref a_NoStream) = some false
  i_NoMix_NoSide : PySem.W.kitOne K (.ref a_NoMix) (.ref a_NoSide) = some false
  i_NoMix_NoAlike : PySem.W.kitOne K (.ref a_NoMix) (.ref a_NoAlike) = some false
  i_NoMix_NoNumber : PySem.W.kitOne K (.ref a_NoMix) (.ref a_NoNumber) = some false
  n_HostError : PySem.W.kitOne K (.type "NoneType") (.ref a_HostError) = some false
  n_NoBattle : PySem.W.kitOne K (.type "NoneType") (.ref a_NoBattle) = some false
  n_NoPlan : PySem.W.kitOne K (.type "NoneType") (.ref a_NoPlan) = some false
  n_NoMix : PySem.W.kitOne K (.type "NoneType") (.ref a_NoMix) = some false
  n_NoStream : PySem.W.kitOne K (.type "NoneType") (.ref a_NoStream) = some false
  n_NoSide : PySem.W.kitOne K (.type "NoneType") (.ref a_NoSide) = some false
  n_NoAlike : PySem.W.kitOne K (.type "NoneType") (.ref a_NoAlike) = some false
  n_NoNumber : PySem.W.kitOne K (.type "NoneType") (.ref a_NoNumber) = some false
structure Nm (mg : Str → Option Value) : Prop where
  ValueError_ : mg "ValueError" = none
  all_ : mg "all" = none
  bool_ : mg "bool" = none
  int_ : mg "int" = none
  isinstance_ : mg "isinstance" = none
  len_ : mg "len" = none
  list_ : mg "list" = none
  range_ : mg "range" = none
  sorted_ : mg "sorted" = none
  sum_ : mg "sum" = none
  tuple_ : mg "tuple" = none
  zip_ : mg "zip" = none
/-! ### how a promise is read -/
local macro_rules | `(tactic| walk_at "hp") => `(tactic| first | assumption | (refine Same.at (H := ?H) ?s ?e; (case s => assumption); (case e => walk_at "hp")) | (refine Chg.at (a := ?a) (H := ?H) ?c ?e ?n; (case c => assumption); (case n => walk_at "ne"); (case e => walk_at "hp")) | fail "hp")
local macro_rules | `(tactic| walk_at "ne") => `(tactic| first | assumption | (apply Ne.symm; assumption) | fail "ne")
local macro_rules | `(tactic| walk_at "wh") => `(tactic| (conv => whnf))
local macro_rules | `(tactic| walk_at "st") => `(tactic| (conv => whnf); first
  | refine mulR_rd (by omega) (by omega) ?_
  | refine mulL_rd (by omega) (by omega) ?_
  | refine modG_rd (by omega) (fun r h0 h1 => ?_)
  | refine div_rd (by omega) (by omega) ?_
  | (refine pow_rd ⟨by decide, by decide, by decide⟩ ?_; simp only [Int.reduceToNat, Int.reducePow])
  | (refine ixT_rd (xs := ?xs) (v := ?v) ?hp ?ev ?_; (case hp => walk_at "hp"); (case ev => rfl))
  | (refine ixL_rd (xs := ?xs) (v := ?v) ?hp ?ev ?_; (case hp => walk_at "hp"); (case ev => rfl))
  | refine newT_rd (fun p H' hf hs ha => ?_)
  | refine newL_rd (fun p H' hf hs ha => ?_)
  | refine isiI_rd ?_
  | (refine isiT_rd (xs := ?xs) ?hp ?_; (case hp => walk_at "hp"))
  | (refine isiL_rd (xs := ?xs) ?hp ?_; (case hp => walk_at "hp"))
  | (refine lenT_rd (xs := ?xs) ?hp ?_; (case hp => walk_at "hp"))
  | (refine lenL_rd (xs := ?xs) ?hp ?_; (case hp => walk_at "hp"))
  | refine isiB_rd ?_
  | refine br_T ?_
  | refine br_F ?_
  | refine br_dT (by omega) ?_
  | refine br_dF (by omega) ?_
  | fail "st")
local macro_rules | `(tactic| walk_at "sm") => `(tactic| first | exact Same.refl _ | (refine Same.trans (H1 := ?H1) ?x ?y; (case y => assumption); (case x => walk_at "sm")) | (refine Same.chg (a := ?a) (H := ?H1) ?x ?n ?y; (case y => assumption); (case n => assumption); (case x => walk_at "sm")) | fail "sm")
/-! ### counts by caps: the mathematics -/
/-! ### counts by their numbers: the mathematics -/
/-! ### plans by numbers: the program -/
def pl (ns : List Nat) : List V := ns.map fun (n : Nat) => V.int (n : Int)
def il (ns : List Nat) : List Int := ns.map fun (n : Nat) => (n : Int)
local macro_rules | `(tactic| walk_at "om") => `(tactic| first | decide | omega)
section
variable {P : Program} {w : World} {K : PySem.W.Frag} {mg : Str → Option Value} {base : Heap} {a_HostError : Addr} {a_NoBattle : Addr} {a_NoPlan : Addr} {a_NoMix : Addr} {a_NoStream : Addr} {a_NoSide : Addr} {a_NoAlike : Addr} {a_NoNumber : Addr}
/-! ### whole numbers, plans, parts, mixes: of things of any kind -/
def isW : PyData → Bool
  | .int _ => true
  | _ => false
def fromD (l : Int) : PyData → Bool
  | .int i => decide (l ≤ i)
  | _ => false
def betwD (l m : Int) : PyData → Bool
  | .int i => decide (l ≤ i ∧ i ≤ m)
  | _ => false
theorem dec_and1 {p q : Prop} [Decidable p] [Decidable q] (h : p) : decide (p ∧ q) = decide q := by simp [h]
theorem dec_and0 {p q : Prop} [Decidable p] [Decidable q] (h : ¬ p) : decide (p ∧ q) = false := by simp [h]
@[irreducible] def sp_is_whole : Sp := fun vs H Q _ => ∃ (v : V) (d : PyData), vs = [v] ∧ ShV H v d ∧ Q (.bl (isW d)) H
theorem iswD_rd {H : Hp} {v : V} {d : PyData} {Q : VK} {E : XK} (h : ShV H v d) (q : Q (.bl (isW d)) H) : sp_is_whole [v] H Q E := by unfold sp_is_whole; exact ⟨v, d, rfl, h, q⟩
theorem ok_is_whole {f : Addr} {fd : FuncData} (F : Fun K "is_whole" "is_whole" s_is_whole f fd) (N : Nm mg) : FnOk P w K mg base CX0 1 f fd ["thing"] sp_is_whole := by
  refine F.ok sc_is_whole (fun vs H Q E h => by unfold sp_is_whole at h; obtain ⟨_, _, rfl, _⟩ := h; rfl) (fun cdv A outer s H vs Q E hr h => ?_)
  unfold sp_is_whole at h
  obtain ⟨v, d, rfl, h, q⟩ := h
  refine ⟨_, (pss_one (ps_ret (peAnd (pB (cIsiK (K := K) rfl) N.isinstance_ bt_isinstance (pa_cons (pq 0) (pa_cons (pTy N.int_ bt_int) pa_nil))) (pe_one (peNot (pB (cIsiK (K := K) rfl) N.isinstance_ bt_isinstance (pa_cons (pq 0) (pa_cons (pTy N.bool_ bt_bool) pa_nil)))))))), ?_⟩
  refine isiD_rd' h (.inl rfl) ?_
  cases h
  case int i =>
    refine br_T ?_
    refine isiI_rd ?_
    walk_at "wh"
    exact q
  case bl b =>
    refine br_T ?_
    refine isiB_rd ?_
    walk_at "wh"
    exact q
  all_goals (walk_at "wh"; refine br_F ?_; walk_at "wh"; exact q)
@[irreducible] def sp_is_from : Sp := fun vs H Q _ => ∃ (v : V) (d : PyData) (l : Int), vs = [v, .int l] ∧ ShV H v d ∧ Q (.bl (fromD l d)) H
theorem isfD_rd {H : Hp} {v : V} {d : PyData} {l : Int} {Q : VK} {E : XK} (h : ShV H v d) (q : Q (.bl (fromD l d)) H) : sp_is_from [v, .int l] H Q E := by unfold sp_is_from; exact ⟨v, d, l, rfl, h, q⟩
theorem ok_is_from {f : Addr} {fd : FuncData} (F : Fun K "is_from" "is_from" s_is_from f fd) (N : Nm mg) (D_is_whole : Def P w K mg base CX0 1 "is_whole" ["thing"] sp_is_whole) : FnOk P w K mg base CX0 2 f fd ["thing", "least"] sp_is_from := by
  refine F.ok sc_is_from (fun vs H Q E h => by unfold sp_is_from at h; obtain ⟨_, _, _, rfl, _⟩ := h; rfl) (fun cdv A outer s H vs Q E hr h => ?_)
  unfold sp_is_from at h
  obtain ⟨v, d, l, rfl, h, q⟩ := h
  refine ⟨_, (pss_one (ps_ret (peAnd (pD D_is_whole hr pass0 (pa_cons (pq 0) pa_nil)) (pe_one (peC oLe (pq 1) (pq 0)))))), ?_⟩
  refine iswD_rd h ?_
  cases h
  case int i =>
    refine br_T ?_
    walk_at "wh"
    exact q
  all_goals (walk_at "wh"; refine br_F ?_; walk_at "wh"; exact q)
@[irreducible] def sp_is_between : Sp := fun vs H Q _ => ∃ (v : V) (d : PyData) (l m : Int), vs = [v, .int l, .int m] ∧ ShV H v d ∧ Q (.bl (betwD l m d)) H
theorem isbD_rd {H : Hp} {v : V} {d : PyData} {l m : Int} {Q : VK} {E : XK} (h : ShV H v d) (q : Q (.bl (betwD l m d)) H) : sp_is_between [v, .int l, .int m] H Q E := by unfold sp_is_between; exact ⟨v, d, l, m, rfl, h, q⟩
theorem isb_rd {H : Hp} {i l m : Int} {Q : VK} {E : XK} (q : Q (.bl (decide (l ≤ i ∧ i ≤ m))) H) : sp_is_between [.int i, .int l, .int m] H Q E := isbD_rd (.int i) q
theorem ok_is_between {f : Addr} {fd : FuncData} (F : Fun K "is_between" "is_between" s_is_between f fd) (N : Nm mg) (D_is_from : Def P w K mg base CX0 2 "is_from" ["thing", "least"] sp_is_from) : FnOk P w K mg base CX0 3 f fd ["thing", "least", "most"] sp_is_between := by
  refine F.ok sc_is_between (fun vs H Q E h => by unfold sp_is_between at h; obtain ⟨_, _, _, _, rfl, _⟩ := h; rfl) (fun cdv A outer s H vs Q E hr h => ?_)
  unfold sp_is_between at h
  obtain ⟨v, d, l, m, rfl, h, q⟩ := h
  refine ⟨_, (pss_one (ps_ret (peAnd (pD D_is_from hr pass0 (pa_cons (pq 0) (pa_cons (pq 1) pa_nil))) (pe_one (peC oLe (pq 0) (pq 2)))))), ?_⟩
  refine isfD_rd h ?_
  cases h
  case int i =>
    have q : Q (.bl (decide (l ≤ i ∧ i ≤ m))) H := q
    refine br_dec (fun h => ?_) (fun h => ?_)
    · walk_at "wh"
      rw [dec_and1 h] at q
      exact q
    · walk_at "wh"
      rw [dec_and0 h] at q
      exact q
  all_goals (walk_at "wh"; refine br_F ?_; walk_at "wh"; exact q)
/-! plans -/
def itemsD : PyData → List PyData
  | .list ds => ds
  | _ => []
def intD : PyData → Int
  | .int i => i
  | _ => 0
def sendsD : PyData → Bool
  | .list ds => ds.all (fromD 0)
  | _ => false
theorem fromD_int {l : Int} {d : PyData} (h : fromD l d = true) : ∃ i : Int, d = .int i ∧ l ≤ i := by
  cases d with
  | int i => exact ⟨i, rfl, of_decide_eq_true h⟩
  | _ => simp [fromD] at h
theorem sml_len {ds : List PyData} (h : sml (.list ds) = true) : ds.length ≤ 1000 ∧ ∀ d ∈ ds, sml d = true := by
  simp only [sml, Bool.and_eq_true, decide_eq_true_eq] at h
  exact ⟨h.1, smlAll_mem h.2⟩
theorem smlT_len {ds : List PyData} (h : sml (.tuple ds) = true) : ds.length ≤ 1000 ∧ ∀ d ∈ ds, sml d = true := by
  simp only [sml, Bool.and_eq_true, decide_eq_true_eq] at h
  exact ⟨h.1, smlAll_mem h.2⟩
theorem range_getB {ds : List PyData} (g : PyData → Bool) : (List.range ds.length).map (fun i => V.bl (g (ds.getD i .none))) = (ds.map g).map V.bl := by
  apply List.ext_getElem?
  intro i
  rw [List.getElem?_map, List.getElem?_map, List.getElem?_map]
  by_cases h : i < ds.length
  · rw [List.getElem?_range h, List.getElem?_eq_getElem h]
    simp [h]
  · rw [List.getElem?_eq_none (by simp; omega), List.getElem?_eq_none (by walk_at "om")]
    rfl
theorem all_mapB {ds : List PyData} (g : PyData → Bool) : (ds.map g).all id = ds.all g := by rw [List.all_map]; rfl
@[irreducible] def sp_sends_hosts : Sp := fun vs H Q _ => ∃ (v : V) (d : PyData), vs = [v] ∧ ShV H v d ∧ sml d = true ∧ ∀ H', Same H H' → Q (.bl (sendsD d)) H'
theorem sendsD_rd {H : Hp} {v : V} {d : PyData} {Q : VK} {E : XK} (h : ShV H v d) (hs : sml d = true) (q : ∀ H', Same H H' → Q (.bl (sendsD d)) H') : sp_sends_hosts [v] H Q E := by unfold sp_sends_hosts; exact ⟨v, d, rfl, h, hs, q⟩
theorem ok_sends_hosts {f : Addr} {fd : FuncData} (F : Fun K "sends_hosts" "sends_hosts" s_sends_hosts f fd) (N : Nm mg) (D_is_from : Def P w K mg base CX0 2 "is_from" ["thing", "least"] sp_is_from) : FnOk P w K mg base CX0 3 f fd ["plan"] sp_sends_hosts := by
  refine F.ok sc_sends_hosts (fun vs H Q E h => by unfold sp_sends_hosts at h; obtain ⟨_, _, rfl, _⟩ := h; rfl) (fun cdv A outer s H vs Q E hr h => ?_)
  unfold sp_sends_hosts at h
  obtain ⟨v, d, rfl, h, hs, q⟩ := h
  refine ⟨_, (pss_one (ps_ret (peAnd (pB (cIsiK (K := K) rfl) N.isinstance_ bt_isinstance (pa_cons (pq 0) (pa_cons (pTy N.list_ bt_list) pa_nil))) (pe_one (pB (cAllK (K := K) rfl rfl) N.all_ bt_all (pa_cons (peComp (N := ["sent"]) (ks := [none]) (piSeqK (K := K) rfl (pq 0)) (fun cl C s3 H3 fp => (pg_name (i := 0) nb_0 rfl (by first | exact Or.inl rfl | exact Or.inr rfl))) (fun cl C s3 H3 fp => pts_nil) (fun cl C s3 H3 fp => (pD D_is_from hr pass0 (pa_cons (pq 0) (pa_cons pe_int pa_nil)))) (.skip .nil)) pa_nil)))))), ?_⟩
  refine isiD_rd' h (.inr (.inr (.inl rfl))) ?_
  cases h
  case lst a xs ds e l =>
    have ll := l.len
    obtain ⟨dl, dm⟩ := sml_len hs
    refine br_T ?_
    refine iterL_rd e ?_
    refine comp_I (Wk.list (SqL.of e)) (by rw [sizeLine_eq]; omega) (fun i => .bl (fromD 0 (ds.getD i .none))) (fun _ => true) (fun j σ => ∃ t : Option V, σ = [t]) ⟨none, rfl⟩ ?_ ?_
    · rintro j x σ H1 R S hj s1 hx ⟨t, rfl⟩ k _
      obtain ⟨d, ed, hd⟩ := l.get j x hx
      have eg : ds.getD j .none = d := by rw [List.getD_eq_getElem?_getD, ed]; rfl
      refine br_T ?_
      refine isfD_rd (hd.same s1) ?_
      walk_at "wh"
      rw [← eg]
      exact k rfl _ _ (Same.refl _) ⟨_, rfl⟩
    intro acc H1 f1 s1 h1
    rw [filter_T, ll, range_getB (fromD 0)] at h1
    refine all_rd h1 ?_
    rw [all_mapB]
    walk_at "wh"
    exact q _ s1
  all_goals (walk_at "wh"; refine br_F ?_; walk_at "wh"; exact q _ (Same.refl _))
theorem shl_ints {H : Hp} : ∀ {xs : List V} {ds : List PyData}, ShL H xs ds → (∀ d ∈ ds, fromD 0 d = true) → ∃ ns : List Int, xs = ns.map V.int ∧ ds = ns.map PyData.int ∧ ∀ x ∈ ns, 0 ≤ x
  | _, _, .nil, _ => ⟨[], rfl, rfl, fun _ h => by cases h⟩
  | _, _, .cons (x := x) (d := d) a b, h => by
    obtain ⟨i, rfl, hi⟩ := fromD_int (h d (.head _))
    obtain ⟨ns, e1, e2, e3⟩ := shl_ints b fun y hy => h y (.tail _ hy)
    cases a
    refine ⟨i :: ns, by rw [e1]; rfl, by rw [e2]; rfl, fun y hy => ?_⟩
    rcases List.mem_cons.mp hy with rfl | hy
    · exact hi
    · exact e3 y hy
/-- a plan that sends hosts: a list of whole numbers -/
theorem sends_ints {H : Hp} {v : V} {d : PyData} (h : ShV H v d) (e : sendsD d = true) : ∃ (a : Addr) (ns : List Int), v = .ref a ∧ H a = some (.lst (ns.map V.int)) ∧ d = .list (ns.map PyData.int) ∧ ∀ x ∈ ns, 0 ≤ x := by
  cases h
  case lst a xs ds e1 l =>
    have e : ds.all (fromD 0) = true := e
    rw [List.all_eq_true] at e
    obtain ⟨ns, rfl, rfl, e3⟩ := shl_ints l e
    exact ⟨a, ns, rfl, e1, rfl, e3⟩
  all_goals simp [sendsD] at e
def numsD (d : PyData) : List Int := (itemsD d).map intD
theorem numsD_ints (ns : List Int) : numsD (.list (ns.map PyData.int)) = ns := by
  unfold numsD itemsD
  rw [List.map_map]
  exact (List.map_congr_left fun x _ => rfl).trans (List.map_id _)
def planD (h f : Int) (d : PyData) : Bool := sendsD d && decide (((numsD d).length : Int) = f) && decide ((numsD d).sum = h)
@[irreducible] def sp_is_plan : Sp := fun vs H Q _ => ∃ (h f : Int) (v : V) (d : PyData), vs = [.int h, .int f, v] ∧ ShV H v d ∧ sml d = true ∧ ∀ H', Same H H' → Q (.bl (planD h f d)) H'
theorem planD_rd {H : Hp} {h f : Int} {v : V} {d : PyData} {Q : VK} {E : XK} (hv : ShV H v d) (hs : sml d = true) (q : ∀ H', Same H H' → Q (.bl (planD h f d)) H') : sp_is_plan [.int h, .int f, v] H Q E := by unfold sp_is_plan; exact ⟨h, f, v, d, rfl, hv, hs, q⟩
theorem ok_is_plan {f : Addr} {fd : FuncData} (F : Fun K "is_plan" "is_plan" s_is_plan f fd) (N : Nm mg) (D_sends_hosts : Def P w K mg base CX0 3 "sends_hosts" ["plan"] sp_sends_hosts) : FnOk P w K mg base CX0 4 f fd ["hosts", "fields", "plan"] sp_is_plan := by
  refine F.ok sc_is_plan (fun vs H Q E h => by unfold sp_is_plan at h; obtain ⟨_, _, _, _, rfl, _⟩ := h; rfl) (fun cdv A outer s H vs Q E hr h => ?_)
  unfold sp_is_plan at h
  obtain ⟨h, f, v, d, rfl, hv, hs, q⟩ := h
  have hu := hu40 hr
  refine ⟨_, (pss_one (ps_ret (peAnd (pD D_sends_hosts hr pass0 (pa_cons (pq 2) pa_nil)) (peAnd (peC (oEqXK (K := K) rfl (by exact hu)) (pB (cLenK (K := K) rfl) N.len_ bt_len (pa_cons (pq 2) pa_nil)) (pq 1)) (pe_one (peC (oEqXK (K := K) rfl (by exact hu)) (pB (cSumK (K := K) rfl rfl) N.sum_ bt_sum (pa_cons (pq 2) pa_nil)) (pq 0))))))), ?_⟩
  refine sendsD_rd hv hs (fun H1 s1 => ?_)
  have q := q _ s1
  cases es : sendsD d
  · walk_at "wh"
    refine br_F ?_
    walk_at "wh"
    unfold planD at q
    rw [es] at q
    exact q
  · obtain ⟨a, ns, rfl, ha, rfl, nn⟩ := sends_ints hv es
    have q : Q (.bl (decide ((ns.length : Int) = f) && decide (ns.sum = h))) H1 := by
      unfold planD at q
      rw [es, numsD_ints, Bool.true_and] at q
      exact q
    refine br_T ?_
    refine lenL_rd (s1 _ _ ha) ?_
    rw [List.length_map]
    refine br_dec (fun h2 => ?_) (fun h2 => ?_)
    · rw [decide_eq_true h2, Bool.true_and] at q
      refine sum_rd (s1 _ _ ha) ?_
      walk_at "wh"
      exact q
    · rw [decide_eq_false h2, Bool.false_and] at q
      walk_at "wh"
      exact q
def partD : PyData → Bool
  | .tuple [a, b] => sendsD a && fromD 1 b
  | _ => false
@[irreducible] def sp_is_part : Sp := fun vs H Q _ => ∃ (v : V) (d : PyData), vs = [v] ∧ ShV H v d ∧ sml d = true ∧ ∀ H', Same H H' → Q (.bl (partD d)) H'
theorem partD_rd {H : Hp} {v : V} {d : PyData} {Q : VK} {E : XK} (h : ShV H v d) (hs : sml d = true) (q : ∀ H', Same H H' → Q (.bl (partD d)) H') : sp_is_part [v] H Q E := by unfold sp_is_part; exact ⟨v, d, rfl, h, hs, q⟩
theorem shl_two {H : Hp} {xs : List V} {ds : List PyData} (l : ShL H xs ds) (e : xs.length = 2) : ∃ x y a b, xs = [x, y] ∧ ds = [a, b] ∧ ShV H x a ∧ ShV H y b := by
  cases l with
  | nil => simp at e
  | cons h1 l =>
    cases l with
    | nil => simp at e
    | cons h2 l =>
      cases l with
      | nil => exact ⟨_, _, _, _, rfl, rfl, h1, h2⟩
      | cons _ _ => simp at e
theorem partD_no {ds : List PyData} (h : ds.length ≠ 2) : partD (.tuple ds) = false := by
  match ds, h with
  | [], _ => rfl
  | [_], _ => rfl
  | [_, _], h => simp at h
  | _ :: _ :: _ :: _, _ => rfl
theorem ok_is_part {f : Addr} {fd : FuncData} (F : Fun K "is_part" "is_part" s_is_part f fd) (N : Nm mg) (D_is_from : Def P w K mg base CX0 2 "is_from" ["thing", "least"] sp_is_from) (D_sends_hosts : Def P w K mg base CX0 3 "sends_hosts" ["plan"] sp_sends_hosts) : FnOk P w K mg base CX0 4 f fd ["part"] sp_is_part := by
  refine F.ok sc_is_part (fun vs H Q E h => by unfold sp_is_part at h; obtain ⟨_, _, rfl, _⟩ := h; rfl) (fun cdv A outer s H vs Q E hr h => ?_)
  unfold sp_is_part at h
  obtain ⟨v, d, rfl, h, hs, q⟩ := h
  have hu := hu40 hr
  refine ⟨_, (pss_one (ps_ret (peAnd (pB (cIsiK (K := K) rfl) N.isinstance_ bt_isinstance (pa_cons (pq 0) (pa_cons (pTy N.tuple_ bt_tuple) pa_nil))) (peAnd (peC (oEqXK (K := K) rfl (by exact hu)) (pB (cLenK (K := K) rfl) N.len_ bt_len (pa_cons (pq 0) pa_nil)) pe_int) (peAnd (pD D_sends_hosts hr pass0 (pa_cons (peIxK (K := K) rfl (pq 0) pe_int) pa_nil)) (pe_one (pD D_is_from hr pass0 (pa_cons (peIxK (K := K) rfl (pq 0) pe_int) (pa_cons pe_int pa_nil))))))))), ?_⟩
  refine isiD_rd' h (.inr (.inr (.inr rfl))) ?_
  cases h
  case tup t xs ds e l =>
    have ll := l.len
    obtain ⟨dl, dm⟩ := smlT_len hs
    refine br_T ?_
    refine lenT_rd e ?_
    refine br_dec (fun h2 => ?_) (fun h2 => ?_)
    · obtain ⟨x, y, a, b, rfl, rfl, ha, hb⟩ := shl_two l (by walk_at "om")
      refine ixT_rd (v := x) e rfl ?_
      refine sendsD_rd ha (dm a (by simp)) (fun H1 s1 => ?_)
      have q : Q (.bl (sendsD a && fromD 1 b)) H1 := q _ s1
      cases es : sendsD a
      · rw [es] at q
        refine br_F ?_
        walk_at "wh"
        exact q
      · rw [es, Bool.true_and] at q
        refine br_T ?_
        refine ixT_rd (v := y) (s1 _ _ e) rfl ?_
        refine isfD_rd (hb.same s1) ?_
        walk_at "wh"
        exact q
    · have q := q _ (Same.refl _)
      rw [partD_no (by walk_at "om")] at q
      walk_at "wh"
      exact q
  all_goals (walk_at "wh"; refine br_F ?_; walk_at "wh"; exact q _ (Same.refl _))
/-- a part of a mix -/
theorem part_of {H : Hp} {v : V} {d : PyData} (h : ShV H v d) (e : partD d = true) : ∃ (t l : Addr) (w : Int) (ns : List Int), v = .ref t ∧ H t = some (.tup [.ref l, .int w]) ∧ H l = some (.lst (ns.map V.int)) ∧ d = .tuple [.list (ns.map PyData.int), .int w] ∧ (∀ x ∈ ns, 0 ≤ x) ∧ 1 ≤ w := by
  cases h
  case tup t xs ds e1 l =>
    have l2 : ds.length = 2 := Classical.byContradiction fun z => by rw [partD_no z] at e; cases e
    obtain ⟨x, y, a, b, rfl, rfl, ha, hb⟩ := shl_two l (by rw [l.len]; exact l2)
    have e : (sendsD a && fromD 1 b) = true := e
    rw [Bool.and_eq_true] at e
    obtain ⟨p, ns, rfl, h1, rfl, nn⟩ := sends_ints ha e.1
    obtain ⟨w, rfl, hw⟩ := fromD_int e.2
    cases hb
    exact ⟨t, p, w, ns, rfl, e1, h1, rfl, nn, hw⟩
  all_goals simp [partD] at e
def planOf : PyData → PyData
  | .tuple (a :: _) => a
  | _ => .none
def sizeD (h f : Int) : Bool := decide (0 ≤ h ∧ h ≤ 40) && decide (1 ≤ f ∧ f ≤ 8)
def firstP (ds : List PyData) : List Int := numsD (planOf (ds.getD 0 .none))
def mixD : PyData → Bool
  | .list ds => decide (ds.length ≠ 0) && ds.all partD && sizeD (firstP ds).sum (firstP ds).length && ds.all fun d => planD (firstP ds).sum (firstP ds).length (planOf d)
  | _ => false
-- @@split
@[irreducible] def sp_is_size : Sp := fun vs H Q _ => ∃ i l : Int, vs = [.int i, .int l] ∧ Q (.bl (sizeD i l)) H
theorem sizeD_rd {H : Hp} {i l : Int} {Q : VK} {E : XK} (q : Q (.bl (sizeD i l)) H) : sp_is_size [.int i, .int l] H Q E := by unfold sp_is_size; exact ⟨i, l, rfl, q⟩
theorem ok_is_size {f : Addr} {fd : FuncData} (F : Fun K "is_size" "is_size" s_is_size f fd) (N : Nm mg) {tk_MOST_FIELDS : Tok} (c_MOST_FIELDS : mg "MOST_FIELDS" = some (.int 8 tk_MOST_FIELDS)) {tk_MOST_HOSTS : Tok} (c_MOST_HOSTS : mg "MOST_HOSTS" = some (.int 40 tk_MOST_HOSTS)) (D_is_between : Def P w K mg base CX0 3 "is_between" ["thing", "least", "most"] sp_is_between) : FnOk P w K mg base CX0 4 f fd ["hosts", "fields"] sp_is_size := by
  refine F.ok sc_is_size (fun vs H Q E h => by unfold sp_is_size at h; obtain ⟨_, _, rfl, _⟩ := h; rfl) (fun cdv A outer s H vs Q E hr h => ?_)
  unfold sp_is_size at h
  obtain ⟨i, l, rfl, q⟩ := h
  refine ⟨_, (pss_one (ps_ret (peAnd (pD D_is_between hr pass0 (pa_cons (pq 0) (pa_cons pe_int (pa_cons (pe_glob (v := .int 40) rfl c_MOST_HOSTS ⟨_, rfl⟩) pa_nil)))) (pe_one (pD D_is_between hr pass0 (pa_cons (pq 1) (pa_cons pe_int (pa_cons (pe_glob (v := .int 8) rfl c_MOST_FIELDS ⟨_, rfl⟩) pa_nil)))))))), ?_⟩
  refine isb_rd ?_
  walk_at "wh"
  unfold sizeD at q
  refine br_dec (fun h => ?_) (fun h => ?_)
  · rw [decide_eq_true h, Bool.true_and] at q
    refine isb_rd ?_
    walk_at "wh"
    exact q
  · rw [decide_eq_false h, Bool.false_and] at q
    walk_at "wh"
    exact q
theorem getD_some {ds : List PyData} {i : Nat} {d : PyData} (h : ds[i]? = some d) : ds.getD i .none = d := by rw [List.getD_eq_getElem?_getD, h]; rfl
theorem mixD_list (ds : List PyData) : mixD (.list ds) = (decide (ds.length ≠ 0) && ds.all partD && sizeD (firstP ds).sum (firstP ds).length && ds.all fun d => planD (firstP ds).sum (firstP ds).length (planOf d)) := rfl
@[irreducible] def sp_is_mix : Sp := fun vs H Q _ => ∃ (v : V) (d : PyData), vs = [v] ∧ ShV H v d ∧ sml d = true ∧ ∀ H', Same H H' → Q (.bl (mixD d)) H'
theorem mixD_rd {H : Hp} {v : V} {d : PyData} {Q : VK} {E : XK} (h : ShV H v d) (hs : sml d = true) (q : ∀ H', Same H H' → Q (.bl (mixD d)) H') : sp_is_mix [v] H Q E := by unfold sp_is_mix; exact ⟨v, d, rfl, h, hs, q⟩
theorem ok_is_mix {f : Addr} {fd : FuncData} (F : Fun K "is_mix" "is_mix" s_is_mix f fd) (N : Nm mg) (D_is_part : Def P w K mg base CX0 4 "is_part" ["part"] sp_is_part) (D_is_plan : Def P w K mg base CX0 4 "is_plan" ["hosts", "fields", "plan"] sp_is_plan) (D_is_size : Def P w K mg base CX0 4 "is_size" ["hosts", "fields"] sp_is_size) : FnOk P w K mg base CX0 5 f fd ["mix"] sp_is_mix := by
  refine F.ok sc_is_mix (fun vs H Q E h => by unfold sp_is_mix at h; obtain ⟨_, _, rfl, _⟩ := h; rfl) (fun cdv A outer s H vs Q E hr h => ?_)
  unfold sp_is_mix at h
  obtain ⟨v, d, rfl, h, hs, q⟩ := h
  have hu := hu40 hr
  refine ⟨_, (pss_cons (psIf (ptW (pwOr (pt_not (ptV (pB (cIsiK (K := K) rfl) N.isinstance_ bt_isinstance (pa_cons (pq 0) (pa_cons (pTy N.list_ bt_list) pa_nil))))) (pwOr (ptC (oEqXK (K := K) rfl (by exact hu)) (pB (cLenK (K := K) rfl) N.len_ bt_len (pa_cons (pq 0) pa_nil)) pe_int) (pw_or1 (pt_not (ptV (pB (cAllK (K := K) rfl rfl) N.all_ bt_all (pa_cons (peComp (N := ["part"]) (ks := [none]) (piSeqK (K := K) rfl (pq 0)) (fun cl C s3 H3 fp => (pg_name (i := 0) nb_1 rfl (by first | exact Or.inl rfl | exact Or.inr rfl))) (fun cl C s3 H3 fp => pts_nil) (fun cl C s3 H3 fp => (pD D_is_part hr pass0 (pa_cons (pq 0) pa_nil))) (.skip .nil)) pa_nil)))))))) (pss_one (ps_ret pe_bl)) pss_nil)
      (pss_cons (psS (i := 1) sc_is_mix.nd (pB (cSumK (K := K) rfl rfl) N.sum_ bt_sum (pa_cons (peIxK (K := K) rfl (peIxK (K := K) rfl (pq 0) pe_int) pe_int) pa_nil)))
      (pss_cons (psS (i := 2) sc_is_mix.nd (pB (cLenK (K := K) rfl) N.len_ bt_len (pa_cons (peIxK (K := K) rfl (peIxK (K := K) rfl (pq 0) pe_int) pe_int) pa_nil)))
      (pss_one (ps_ret (peAnd (pD D_is_size hr pass0 (pa_cons (pq 1) (pa_cons (pq 2) pa_nil))) (pe_one (pB (cAllK (K := K) rfl rfl) N.all_ bt_all (pa_cons (peComp (N := ["plan", "weight", "hosts", "fields"]) (ks := [none, none, some 1, some 2]) (piSeqK (K := K) rfl (pq 0)) (fun cl C s3 H3 fp => (pgAnyK (K := K) (n := 2) rfl rfl (pgsCons (pg_name (i := 0) nb_2 rfl (by first | exact Or.inl rfl | exact Or.inr rfl)) (pgsCons (pg_name (i := 1) nb_2 rfl (by first | exact Or.inl rfl | exact Or.inr rfl)) pgsNil)))) (fun cl C s3 H3 fp => pts_nil) (fun cl C s3 H3 fp => (pD D_is_plan hr pass0 (pa_cons (pq 2) (pa_cons (pq 3) (pa_cons (pq 0) pa_nil))))) (.skip (.skip (.take rfl rfl (by first | exact Or.inl rfl | exact Or.inr rfl) (.take rfl rfl (by first | exact Or.inl rfl | exact Or.inr rfl) .nil))))) pa_nil))))))))), ?_⟩
  refine isiD_rd' h (.inr (.inr (.inl rfl))) ?_
  cases h
  case lst a xs ds e l =>
    have ll := l.len
    obtain ⟨dl, dm⟩ := sml_len hs
    refine br_not (br_T ?_)
    refine lenL_rd e ?_
    rw [ll]
    refine br_dec (fun h0 => ?_) (fun h0 => ?_)
    · walk_at "wh"
      refine br_T ?_
      walk_at "wh"
      have q := q _ (Same.refl _)
      rw [mixD_list, decide_eq_false (by walk_at "om")] at q
      exact q
    have d0 : decide (ds.length ≠ 0) = true := decide_eq_true (by walk_at "om")
    refine iterL_rd e ?_
    refine comp_I (Wk.list (SqL.of e)) (by rw [sizeLine_eq]; omega) (fun i => .bl (partD (ds.getD i .none))) (fun _ => true) (fun j σ => ∃ t : Option V, σ = [t]) ⟨none, rfl⟩ ?_ ?_
    · rintro j x σ H1 R S hj s1 hx ⟨t, rfl⟩ k _
      obtain ⟨d, ed, hd⟩ := l.get j x hx
      refine br_T ?_
      refine partD_rd (hd.same s1) (dm d (List.mem_of_getElem? ed)) (fun H2 s2 => ?_)
      walk_at "wh"
      rw [← getD_some ed]
      exact k rfl _ _ s2 ⟨_, rfl⟩
    intro acc H1 f1 s1 h1
    rw [filter_T, ll, range_getB partD] at h1
    refine all_rd h1 ?_
    rw [all_mapB]
    cases ea : ds.all partD
    · walk_at "wh"
      refine br_not (br_F ?_)
      walk_at "wh"
      have q := q _ s1
      rw [mixD_list, d0, ea] at q
      exact q
    have ea' : ∀ d ∈ ds, partD d = true := List.all_eq_true.mp ea
    refine br_not (br_T ?_)
    obtain ⟨x0, ex0⟩ : ∃ x, xs[0]? = some x := ⟨_, List.getElem?_eq_getElem (by walk_at "om")⟩
    obtain ⟨dd0, ed0, hd0⟩ := l.get 0 x0 ex0
    obtain ⟨t, p, w, ns, rfl, ht, hp, rfl, nn, hw⟩ := part_of hd0 (ea' dd0 (List.mem_of_getElem? ed0))
    have fp : firstP ds = ns := by unfold firstP; rw [getD_some ed0]; exact numsD_ints ns
    have at0 : atI xs 0 = some (.ref t) := atI_nat (j := 0) ex0
    refine ixL_rd (v := .ref t) (s1 _ _ e) at0 ?_
    refine ixT_rd (v := .ref p) (s1 _ _ ht) rfl ?_
    refine sum_rd (s1 _ _ hp) ?_
    refine ixL_rd (v := .ref t) (s1 _ _ e) at0 ?_
    refine ixT_rd (v := .ref p) (s1 _ _ ht) rfl ?_
    refine lenL_rd (s1 _ _ hp) ?_
    rw [List.length_map]
    refine sizeD_rd ?_
    have qq : ∀ H', Same H1 H' → Q (.bl (sizeD ns.sum ns.length && ds.all fun d => planD ns.sum ns.length (planOf d))) H' := fun H' s' => by
      have q := q _ (s1.trans s')
      rw [mixD_list, d0, ea, fp, Bool.true_and, Bool.true_and] at q
      exact q
    cases es : sizeD ns.sum ns.length
    · have qq := qq _ (Same.refl _)
      rw [es] at qq
      refine br_F ?_
      walk_at "wh"
      exact qq
    refine br_T ?_
    refine iterL_rd (s1 _ _ e) ?_
    refine comp_I (Wk.list (SqL.of (s1 _ _ e))) (by rw [sizeLine_eq]; omega) (fun i => .bl (planD ns.sum ns.length (planOf (ds.getD i .none)))) (fun _ => true) (fun j σ => ∃ t u : Option V, σ = [t, u, some (.int ns.sum), some (.int ns.length)]) ⟨none, none, rfl⟩ ?_ ?_
    · rintro j x σ H2 R S hj s2 hx ⟨t', u', rfl⟩ k _
      obtain ⟨d, ed, hd⟩ := l.get j x hx
      have hd := hd.same (s1.trans s2)
      have hm := dm d (List.mem_of_getElem? ed)
      obtain ⟨t, p, w, ns', rfl, ht, hp, rfl, nn', hw'⟩ := part_of hd (ea' d (List.mem_of_getElem? ed))
      have sp : sml (.list (ns'.map PyData.int)) = true := (smlT_len hm).2 _ (by simp)
      have hv : ShV H2 (.ref p) (.list (ns'.map PyData.int)) := .lst hp (ShL.idx (by rw [List.length_map, List.length_map]) fun i x d h1 h2 => by
        rw [List.getElem?_map] at h1 h2
        obtain ⟨n, en, rfl⟩ := Option.map_eq_some_iff.mp h1
        rw [en] at h2
        cases h2
        exact .int n)
      refine unpT_rd ht ?_
      refine br_T ?_
      refine planD_rd hv sp (fun H3 s3 => ?_)
      walk_at "wh"
      have e1 := getD_some ed
      rw [e1] at k
      exact k rfl _ _ s3 ⟨_, _, rfl⟩
    intro acc2 H2 f2 s2 h2
    rw [filter_T, ll, range_getB fun d => planD ns.sum ns.length (planOf d)] at h2
    refine all_rd h2 ?_
    rw [all_mapB]
    walk_at "wh"
    have qq := qq _ s2
    rw [es, Bool.true_and] at qq
    exact qq
  all_goals (walk_at "wh"; refine br_not (br_F ?_); walk_at "wh"; refine br_T ?_; walk_at "wh"; exact q _ (Same.refl _))
@[irreducible] def sp_look_mix (a_NoMix : Addr) : Sp := fun vs H Q E => ∃ (v : V) (d : PyData), vs = [v] ∧ ShV H v d ∧ sml d = true ∧ (mixD d = true → ∀ H', Same H H' → Q .non H') ∧ (mixD d = false → ∀ H', Same H H' → E (.ref a_NoMix) none H')
theorem look_mixD_rd {a_NoMix : Addr} {H : Hp} {v : V} {d : PyData} {Q : VK} {E : XK} (h : ShV H v d) (hs : sml d = true) (q : mixD d = true → ∀ H', Same H H' → Q .non H') (qe : mixD d = false → ∀ H', Same H H' → E (.ref a_NoMix) none H') : sp_look_mix a_NoMix [v] H Q E := by unfold sp_look_mix; exact ⟨v, d, rfl, h, hs, q, qe⟩
theorem ok_look_mix {f : Addr} {fd : FuncData} (F : Fun K "look_mix" "look_mix" s_look_mix f fd) (N : Nm mg) (D_is_mix : Def P w K mg base CX0 5 "is_mix" ["mix"] sp_is_mix) (Z : Cz K mg base a_HostError a_NoBattle a_NoPlan a_NoMix a_NoStream a_NoSide a_NoAlike a_NoNumber) : FnOk P w K mg base (CXR P w) 6 f fd ["mix"] (sp_look_mix a_NoMix) := by
  refine F.okR sc_look_mix (fun vs H Q E h => by unfold sp_look_mix at h; obtain ⟨_, _, rfl, _⟩ := h; rfl) (fun cdv A outer s H vs Q E hr hX h => ?_)
  unfold sp_look_mix at h
  obtain ⟨v, d, rfl, h, hs, q, qe⟩ := h
  refine ⟨_, (pss_one (psIf (pt_not (ptV (pD D_is_mix hr pass0 (pa_cons (pq 0) pa_nil)))) (pss_one (psRaise Z.o_NoMix PySem.F.excBase_ValueError rfl hX (pa_cons pe_str pa_nil))) pss_nil)), ?_⟩
  refine mixD_rd h hs (fun H1 s1 => ?_)
  cases em : mixD d
  · walk_at "wh"
    refine br_not (br_F ?_)
    walk_at "wh"
    exact ⟨by decide, qe em _ s1⟩
  · walk_at "wh"
    refine br_not (br_T ?_)
    walk_at "wh"
    exact q em _ s1
/-! weights -/
def wtD : PyData → Int
  | .tuple [_, b] => intD b
  | _ => 0
/-- what a mix is: a list of parts -/
theorem mix_of {H : Hp} {v : V} {d : PyData} (h : ShV H v d) (e : mixD d = true) : ∃ (a : Addr) (xs : List V) (ds : List PyData), v = .ref a ∧ d = .list ds ∧ H a = some (.lst xs) ∧ ShL H xs ds ∧ ds.length ≠ 0 ∧ ∀ d ∈ ds, partD d = true := by
  cases h
  case lst a xs ds e1 l =>
    unfold mixD at e
    simp only [Bool.and_eq_true, decide_eq_true_eq] at e
    exact ⟨a, xs, ds, rfl, rfl, e1, l, e.1.1.1, List.all_eq_true.mp e.1.1.2⟩
  all_goals simp [mixD] at e
theorem partD_shape {d : PyData} (h : partD d = true) : ∃ (ns : List Int) (w : Int), d = .tuple [.list (ns.map PyData.int), .int w] ∧ (∀ x ∈ ns, 0 ≤ x) ∧ 1 ≤ w := by
  cases d with
  | tuple ds =>
    have l2 : ds.length = 2 := Classical.byContradiction fun z => by rw [partD_no z] at h; cases h
    match ds, l2 with
    | [a, b], _ =>
      have h : (sendsD a && fromD 1 b) = true := h
      rw [Bool.and_eq_true] at h
      obtain ⟨w, rfl, hw⟩ := fromD_int h.2
      cases a with
      | list es =>
        have h1 : es.all (fromD 0) = true := h.1
        rw [List.all_eq_true] at h1
        have : ∀ {es : List PyData}, (∀ d ∈ es, fromD 0 d = true) → ∃ ns : List Int, es = ns.map PyData.int ∧ ∀ x ∈ ns, 0 ≤ x := fun {es} h1 => by
          induction es with
          | nil => exact ⟨[], rfl, fun _ h => by cases h⟩
          | cons d es ih =>
            obtain ⟨i, rfl, hi⟩ := fromD_int (h1 d (.head _))
            obtain ⟨ns, rfl, hn⟩ := ih fun d hd => h1 d (.tail _ hd)
            refine ⟨i :: ns, rfl, fun x hx => ?_⟩
            rcases List.mem_cons.mp hx with rfl | hx
            · exact hi
            · exact hn x hx
        obtain ⟨ns, rfl, hn⟩ := this h1
        exact ⟨ns, w, rfl, hn, hw⟩
      | _ => simp [sendsD] at h
  | _ => simp [partD] at h
theorem numsD_plan (ns : List Int) (w : Int) : numsD (planOf (.tuple [.list (ns.map PyData.int), .int w])) = ns := numsD_ints ns
-- @@split
/-! ### mixes -/
structure MixAt (H : Hp) (m : Addr) (ts : List (Addr × Addr)) (ms : List (List Int × Int)) : Prop where
  out : H m = some (.lst (ts.map fun t => V.ref t.1))
  len : ts.length = ms.length
  part : ∀ (i : Nat) t x, ts[i]? = some t → ms[i]? = some x → H t.1 = some (.tup [.ref t.2, .int x.2]) ∧ H t.2 = some (.lst (x.1.map V.int))
theorem MixAt.same {H H' : Hp} {m : Addr} {ts : List (Addr × Addr)} {ms : List (List Int × Int)} (M : MixAt H m ts ms) (s : Same H H') : MixAt H' m ts ms := ⟨s _ _ M.out, M.len, fun i t x h1 h2 => ⟨s _ _ (M.part i t x h1 h2).1, s _ _ (M.part i t x h1 h2).2⟩⟩
theorem MixAt.get {H : Hp} {m : Addr} {ts : List (Addr × Addr)} {ms : List (List Int × Int)} (M : MixAt H m ts ms) {i : Nat} (hi : i < ms.length) : ∃ t x, ts[i]? = some t ∧ ms[i]? = some x ∧ H t.1 = some (.tup [.ref t.2, .int x.2]) ∧ H t.2 = some (.lst (x.1.map V.int)) :=
  ⟨_, _, List.getElem?_eq_getElem (by have := M.len; omega), List.getElem?_eq_getElem hi, M.part i _ _ (List.getElem?_eq_getElem (by have := M.len; omega)) (List.getElem?_eq_getElem hi)⟩
theorem MixAt.elt {H : Hp} {m : Addr} {ts : List (Addr × Addr)} {ms : List (List Int × Int)} (M : MixAt H m ts ms) {i : Nat} {v : V} (e : (ts.map fun t => V.ref t.1)[i]? = some v) : ∃ t x, v = .ref t.1 ∧ ts[i]? = some t ∧ ms[i]? = some x ∧ H t.1 = some (.tup [.ref t.2, .int x.2]) ∧ H t.2 = some (.lst (x.1.map V.int)) := by
  rw [List.getElem?_map] at e
  obtain ⟨t, et, rfl⟩ := Option.map_eq_some_iff.mp e
  obtain ⟨t', x, h1, h2, h3⟩ := M.get (i := i) (by have := (List.getElem?_eq_some_iff.mp et).1; have := M.len; omega)
  rw [et] at h1
  cases h1
  exact ⟨t, x, rfl, et, h2, h3⟩
theorem MixAt.ix {H : Hp} {m : Addr} {ts : List (Addr × Addr)} {ms : List (List Int × Int)} (M : MixAt H m ts ms) {k : Nat} {x : List Int × Int} (e : ms[k]? = some x) : ∃ t, ts[k]? = some t ∧ atI (ts.map fun t => V.ref t.1) (k : Int) = some (.ref t.1) ∧ H t.1 = some (.tup [.ref t.2, .int x.2]) ∧ H t.2 = some (.lst (x.1.map V.int)) := by
  obtain ⟨t, x', h1, h2, h3⟩ := M.get (i := k) ((List.getElem?_eq_some_iff.mp e).1)
  rw [e] at h2
  cases h2
  exact ⟨t, h1, atI_nat (by rw [List.getElem?_map, h1]; rfl), h3⟩
/-! ### a heap without one thing, the new part of a heap -/
def rm (p : Addr) (H : Hp) : Hp := fun b => if b = p then none else H b
def nw (H H' : Hp) : Hp := fun b => match H b with
  | none => H' b
  | some _ => none
theorem rm_at {p b : Addr} {H : Hp} {o : HO} (n : b ≠ p) (h : H b = some o) : rm p H b = some o := by unfold rm; rw [if_neg n]; exact h
theorem rm_of {p b : Addr} {H : Hp} {o : HO} (h : rm p H b = some o) : b ≠ p ∧ H b = some o := by
  unfold rm at h
  by_cases e : b = p
  · rw [if_pos e] at h; cases h
  · rw [if_neg e] at h; exact ⟨e, h⟩
theorem nw_at {b : Addr} {H H' : Hp} {o : HO} (n : H b = none) (h : H' b = some o) : nw H H' b = some o := by unfold nw; rw [n]; exact h
theorem nw_of {b : Addr} {H H' : Hp} {o : HO} (h : nw H H' b = some o) : H b = none ∧ H' b = some o := by
  unfold nw at h
  cases e : H b with
  | none => rw [e] at h; exact ⟨rfl, h⟩
  | some v => rw [e] at h; cases h
theorem rm_same (p : Addr) (H : Hp) : Same (rm p H) H := fun b o h => (rm_of h).2
theorem nw_same (H H' : Hp) : Same (nw H H') H' := fun b o h => (nw_of h).2
theorem Same.rm {p : Addr} {H H' : Hp} (s : Same H H') : Same (rm p H) (G.rm p H') := fun b o h => rm_at (rm_of h).1 (s _ _ (rm_of h).2)
theorem Chg.rm {p : Addr} {H H' : Hp} (s : Chg p H H') : Same (rm p H) (G.rm p H') := fun b o h => rm_at (rm_of h).1 (s _ _ (rm_of h).1 (rm_of h).2)
theorem nw_up {H H' H'' : Hp} (s : Same H' H'') : Same (nw H H') (nw H H'') := fun b o h => nw_at (nw_of h).1 (s _ _ (nw_of h).2)
theorem nw_left {H0 H H' : Hp} (s : Same H0 H) : Same (nw H H') (nw H0 H') := fun b o h => nw_at (s.free (nw_of h).1) (nw_of h).2
theorem nw_rm {p : Addr} {o : HO} {H H' : Hp} (hp : H p = some o) : Same (nw H H') (rm p H') := fun b o h => rm_at (fun z => by have := (nw_of h).1; rw [z, hp] at this; cases this) (nw_of h).2
/-! ### flows and rows, of things of any kind -/
def flowD : PyData → Bool
  | .tuple [a, b, c] => fromD 0 a && betwD 0 (intD a) b && fromD 1 c
  | _ => false
theorem flowD_no {ds : List PyData} (h : ds.length ≠ 3) : flowD (.tuple ds) = false := by
  match ds, h with
  | [], _ => rfl
  | [_], _ => rfl
  | [_, _], _ => rfl
  | [_, _, _], h => simp at h
  | _ :: _ :: _ :: _ :: _, _ => rfl
theorem shl_three {H : Hp} {xs : List V} {ds : List PyData} (l : ShL H xs ds) (e : xs.length = 3) : ∃ x y z a b c, xs = [x, y, z] ∧ ds = [a, b, c] ∧ ShV H x a ∧ ShV H y b ∧ ShV H z c := by
  cases l with
  | nil => simp at e
  | cons h1 l =>
    obtain ⟨y, z, b, c, rfl, rfl, h2, h3⟩ := shl_two l (by simpa using e)
    exact ⟨_, _, _, _, _, _, rfl, rfl, h1, h2, h3⟩
@[irreducible] def sp_is_flow : Sp := fun vs H Q _ => ∃ (v : V) (d : PyData), vs = [v] ∧ ShV H v d ∧ Q (.bl (flowD d)) H
theorem flowD_rd {H : Hp} {v : V} {d : PyData} {Q : VK} {E : XK} (h : ShV H v d) (q : Q (.bl (flowD d)) H) : sp_is_flow [v] H Q E := by unfold sp_is_flow; exact ⟨v, d, rfl, h, q⟩
theorem ok_is_flow {f : Addr} {fd : FuncData} (F : Fun K "is_flow" "is_flow" s_is_flow f fd) (N : Nm mg) (D_is_between : Def P w K mg base CX0 3 "is_between" ["thing", "least", "most"] sp_is_between) (D_is_from : Def P w K mg base CX0 2 "is_from" ["thing", "least"] sp_is_from) : FnOk P w K mg base CX0 4 f fd ["thing"] sp_is_flow := by
  refine F.ok sc_is_flow (fun vs H Q E h => by unfold sp_is_flow at h; obtain ⟨_, _, rfl, _⟩ := h; rfl) (fun cdv A outer s H vs Q E hr h => ?_)
  unfold sp_is_flow at h
  obtain ⟨v, d, rfl, h, q⟩ := h
  have hu := hu40 hr
  refine ⟨_, (pss_cons (psIf (ptW (pwOr (pt_not (ptV (pB (cIsiK (K := K) rfl) N.isinstance_ bt_isinstance (pa_cons (pq 0) (pa_cons (pTy N.tuple_ bt_tuple) pa_nil))))) (pw_or1 (ptC (oNeXK (K := K) rfl (by exact hu)) (pB (cLenK (K := K) rfl) N.len_ bt_len (pa_cons (pq 0) pa_nil)) pe_int)))) (pss_one (ps_ret pe_bl)) pss_nil)
      (pss_one (ps_ret (peAnd (pD D_is_from hr pass0 (pa_cons (peIxK (K := K) rfl (pq 0) pe_int) (pa_cons pe_int pa_nil))) (peAnd (pD D_is_between hr pass0 (pa_cons (peIxK (K := K) rfl (pq 0) pe_int) (pa_cons pe_int (pa_cons (peIxK (K := K) rfl (pq 0) pe_int) pa_nil)))) (pe_one (pD D_is_from hr pass0 (pa_cons (peIxK (K := K) rfl (pq 0) pe_int) (pa_cons pe_int pa_nil))))))))), ?_⟩
  refine isiD_rd' h (.inr (.inr (.inr rfl))) ?_
  cases h
  case tup t xs ds e l =>
    have ll := l.len
    refine br_not (br_T ?_)
    refine lenT_rd e ?_
    refine br_not (br_dec (fun h3 => ?_) (fun h3 => ?_))
    · obtain ⟨x, y, z, a, b, c, rfl, rfl, ha, hb, hc⟩ := shl_three l (by walk_at "om")
      have q : Q (.bl (fromD 0 a && betwD 0 (intD a) b && fromD 1 c)) H := q
      refine ixT_rd (v := x) e rfl ?_
      refine isfD_rd ha ?_
      cases e1 : fromD 0 a
      · rw [e1] at q
        refine br_F ?_
        walk_at "wh"
        exact q
      · rw [e1, Bool.true_and] at q
        obtain ⟨i, rfl, hi⟩ := fromD_int e1
        cases ha
        refine br_T ?_
        refine ixT_rd (v := y) e rfl ?_
        refine ixT_rd (v := .int i) e rfl ?_
        refine isbD_rd hb ?_
        have q : Q (.bl (betwD 0 i b && fromD 1 c)) H := q
        cases e2 : betwD 0 i b
        · rw [e2] at q
          refine br_F ?_
          walk_at "wh"
          exact q
        · rw [e2, Bool.true_and] at q
          refine br_T ?_
          refine ixT_rd (v := z) e rfl ?_
          refine isfD_rd hc ?_
          walk_at "wh"
          exact q
    · rw [flowD_no (by walk_at "om")] at q
      walk_at "wh"
      exact q
  all_goals (walk_at "wh"; refine br_not (br_F ?_); walk_at "wh"; refine br_T ?_; walk_at "wh"; exact q)
theorem betwD_int {l m : Int} {d : PyData} (h : betwD l m d = true) : ∃ i, d = .int i ∧ l ≤ i ∧ i ≤ m := by
  cases d with
  | int i => have := of_decide_eq_true h; exact ⟨i, rfl, this⟩
  | _ => simp [betwD] at h
/-- a flow -/
theorem flow_of {H : Hp} {v : V} {d : PyData} (h : ShV H v d) (e : flowD d = true) : ∃ (t : Addr) (i j w : Int), v = .ref t ∧ H t = some (.tup [.int i, .int j, .int w]) ∧ d = .tuple [.int i, .int j, .int w] ∧ 0 ≤ j ∧ j ≤ i ∧ 1 ≤ w := by
  cases h
  case tup t xs ds e1 l =>
    have l3 : ds.length = 3 := Classical.byContradiction fun z => by rw [flowD_no z] at e; cases e
    obtain ⟨x, y, z, a, b, c, rfl, rfl, ha, hb, hc⟩ := shl_three l (by rw [l.len]; exact l3)
    have e : (fromD 0 a && betwD 0 (intD a) b && fromD 1 c) = true := e
    rw [Bool.and_eq_true, Bool.and_eq_true] at e
    obtain ⟨i, rfl, hi⟩ := fromD_int e.1.1
    obtain ⟨j, rfl, hj1, hj2⟩ := betwD_int e.1.2
    obtain ⟨w, rfl, hw⟩ := fromD_int e.2
    cases ha
    cases hb
    cases hc
    exact ⟨t, i, j, w, rfl, e1, rfl, hj1, hj2, hw⟩
  all_goals simp [flowD] at e
def keyD : PyData → Int × Int
  | .tuple (a :: b :: _) => (intD a, intD b)
  | _ => (0, 0)
def incD (ds : List PyData) : Bool := (List.range (ds.length - 1)).all fun i => ltP (keyD (ds.getD i .none)) (keyD (ds.getD (i + 1) .none))
def rowD : PyData → Bool
  | .list ds => ds.all flowD && incD ds
  | _ => false
@[irreducible] def sp_is_row : Sp := fun vs H Q _ => ∃ (v : V) (d : PyData), vs = [v] ∧ ShV H v d ∧ sml d = true ∧ ∀ H', Same H H' → Q (.bl (rowD d)) H'
theorem rowD_rd {H : Hp} {v : V} {d : PyData} {Q : VK} {E : XK} (h : ShV H v d) (hs : sml d = true) (q : ∀ H', Same H H' → Q (.bl (rowD d)) H') : sp_is_row [v] H Q E := by unfold sp_is_row; exact ⟨v, d, rfl, h, hs, q⟩
theorem ok_is_row {f : Addr} {fd : FuncData} (F : Fun K "is_row" "is_row" s_is_row f fd) (N : Nm mg) (D_is_flow : Def P w K mg base CX0 4 "is_flow" ["thing"] sp_is_flow) : FnOk P w K mg base CX0 5 f fd ["row"] sp_is_row := by
  refine F.ok sc_is_row (fun vs H Q E h => by unfold sp_is_row at h; obtain ⟨_, _, rfl, _⟩ := h; rfl) (fun cdv A outer s H vs Q E hr h => ?_)
  unfold sp_is_row at h
  obtain ⟨v, d, rfl, h, hs, q⟩ := h
  have hu := hu40 hr
  refine ⟨_, (pss_cons (psIf (ptW (pwOr (pt_not (ptV (pB (cIsiK (K := K) rfl) N.isinstance_ bt_isinstance (pa_cons (pq 0) (pa_cons (pTy N.list_ bt_list) pa_nil))))) (pw_or1 (pt_not (ptV (pB (cAllK (K := K) rfl rfl) N.all_ bt_all (pa_cons (peComp (N := ["thing"]) (ks := [none]) (piSeqK (K := K) rfl (pq 0)) (fun cl C s3 H3 fp => (pg_name (i := 0) nb_3 rfl (by first | exact Or.inl rfl | exact Or.inr rfl))) (fun cl C s3 H3 fp => pts_nil) (fun cl C s3 H3 fp => (pD D_is_flow hr pass0 (pa_cons (pq 0) pa_nil))) (.skip .nil)) pa_nil))))))) (pss_one (ps_ret pe_bl)) pss_nil)
      (pss_one (ps_ret (pB (cAllK (K := K) rfl rfl) N.all_ bt_all (pa_cons (peComp (N := ["one", "other"]) (ks := [none, none]) (piZipK (K := K) rfl N.zip_ (pa_cons (pq 0) (pa_cons (pe_slice (slXK (K := K) rfl) (pq 0) (poSome pe_int) po_none) pa_nil))) (fun cl C s3 H3 fp => (pgAnyK (K := K) (n := 2) rfl rfl (pgsCons (pg_name (i := 0) nb_4 rfl (by first | exact Or.inl rfl | exact Or.inr rfl)) (pgsCons (pg_name (i := 1) nb_4 rfl (by first | exact Or.inl rfl | exact Or.inr rfl)) pgsNil)))) (fun cl C s3 H3 fp => pts_nil) (fun cl C s3 H3 fp => (peC (oLtX (by exact hu)) (pe_slice (slXK (K := K) rfl) (pq 0) po_none (poSome pe_int)) (pe_slice (slXK (K := K) rfl) (pq 1) po_none (poSome pe_int)))) (.skip (.skip .nil))) pa_nil))))), ?_⟩
  refine isiD_rd' h (.inr (.inr (.inl rfl))) ?_
  cases h
  case lst a xs ds e l =>
    have ll := l.len
    obtain ⟨dl, dm⟩ := sml_len hs
    refine br_not (br_T ?_)
    refine iterL_rd e ?_
    refine comp_I (Wk.list (SqL.of e)) (by rw [sizeLine_eq]; omega) (fun i => .bl (flowD (ds.getD i .none))) (fun _ => true) (fun j σ => ∃ t : Option V, σ = [t]) ⟨none, rfl⟩ ?_ ?_
    · rintro j x σ H1 R S hj s1 hx ⟨t, rfl⟩ k _
      obtain ⟨d, ed, hd⟩ := l.get j x hx
      refine br_T ?_
      refine flowD_rd (hd.same s1) ?_
      walk_at "wh"
      rw [← getD_some ed]
      exact k rfl _ _ (Same.refl _) ⟨_, rfl⟩
    intro acc H1 f1 s1 h1
    rw [filter_T, ll, range_getB flowD] at h1
    refine all_rd h1 ?_
    rw [all_mapB]
    cases ea : ds.all flowD
    · walk_at "wh"
      refine br_not (br_F ?_)
      walk_at "wh"
      have q : Q (.bl (ds.all flowD && incD ds)) H1 := q _ s1
      rw [ea] at q
      exact q
    have ea' : ∀ d ∈ ds, flowD d = true := List.all_eq_true.mp ea
    refine br_not (br_T ?_)
    have e1 := s1 _ _ e
    refine slL_rd (SqL.of e1) (fun p2 H2 f2 s2 h2 => ?_)
    rw [cut_drop (by walk_at "om")] at h2
    refine zip_rd (SqL.of (s2 _ _ e1)) (SqL.of h2) ?_
    refine comp_I (Wk.zipN (n := ds.length - 1) (SqL.of (s2 _ _ e1)) (SqL.of h2) (by walk_at "om") (by rw [List.length_drop]; show _ ≤ _ - 1; omega) (.inr (by rw [List.length_drop, ll]; rfl))) (by rw [sizeLine_eq]; omega) (fun i => .bl (ltP (keyD (ds.getD i .none)) (keyD (ds.getD (i + 1) .none)))) (fun _ => true) (fun j σ => ∃ t u : Option V, σ = [t, u]) ⟨none, none, rfl⟩ ?_ ?_
    · rintro j v σ H3 R S hj s3 ⟨p, x, y, rfl, hp, hx, hy⟩ ⟨t, u, rfl⟩ k _
      rw [List.getElem?_drop, show (1 : Int).toNat + j = j + 1 by show 1 + j = j + 1; omega] at hy
      obtain ⟨d, ed, hd⟩ := l.get j x hx
      obtain ⟨d', ed', hd'⟩ := l.get (j + 1) y hy
      have s03 := (s1.trans s2).trans s3
      obtain ⟨t1, i1, j1, w1, rfl, ht1, rfl, _⟩ := flow_of (hd.same s03) (ea' d (List.mem_of_getElem? ed))
      obtain ⟨t2, i2, j2, w2, rfl, ht2, rfl, _⟩ := flow_of (hd'.same s03) (ea' d' (List.mem_of_getElem? ed'))
      rw [getD_some ed, getD_some ed'] at k
      refine unpT_rd hp ?_
      refine br_T ?_
      refine sl3_rd ht1 (fun p4 H4 f4 s4 h4 => ?_)
      refine sl3_rd (s4 _ _ ht2) (fun p5 H5 f5 s5 h5 => ?_)
      refine ltP_rd (x := (i1, j1)) (y := (i2, j2)) (s5 _ _ h4) h5 ?_
      walk_at "wh"
      exact k rfl _ _ (s4.trans s5) ⟨_, _, rfl⟩
    intro acc2 H3 f3 s3 h3
    rw [filter_T] at h3
    have h3 : H3 acc2 = some (.lst (((List.range (ds.length - 1)).map fun i => ltP (keyD (ds.getD i .none)) (keyD (ds.getD (i + 1) .none))).map V.bl)) := by rw [h3, List.map_map]; rfl
    refine all_rd h3 ?_
    have q : Q (.bl (ds.all flowD && incD ds)) H3 := q _ ((s1.trans s2).trans s3)
    rw [ea, Bool.true_and] at q
    rw [List.all_map]
    exact q
  all_goals (walk_at "wh"; refine br_not (br_F ?_); walk_at "wh"; refine br_T ?_; walk_at "wh"; exact q _ (Same.refl _))
-- @@split
/-! ### sums under keys -/
def valG {κ : Type} [DecidableEq κ] (kv : List (κ × Int)) (k : κ) : Option Int := (kv.find? fun z => decide (z.1 = k)).map (·.2)
def putG {κ : Type} [DecidableEq κ] (kv : List (κ × Int)) (k : κ) (n : Int) : List (κ × Int) := if (kv.any fun z => decide (z.1 = k)) = true then kv.map (fun z => if z.1 = k then (z.1, n) else z) else kv ++ [(k, n)]
def addG {κ : Type} [DecidableEq κ] (s : List (κ × Int)) (z : κ × Int) : List (κ × Int) := putG s z.1 ((valG s z.1).getD 0 + z.2)
def sumG {κ : Type} [DecidableEq κ] (zs : List (κ × Int)) : List (κ × Int) := zs.foldl addG []
def dF {κ κ' : Type} (f : κ → κ') (kv : List (κ × Int)) : List (κ' × V) := kv.map fun z => (f z.1, V.int z.2)
section
variable {κ κ' : Type} [DecidableEq κ] [DecidableEq κ']
theorem valG_pos {z : κ × Int} {kv : List (κ × Int)} {k : κ} (e : z.1 = k) : valG (z :: kv) k = some z.2 := by unfold valG; rw [List.find?_cons, decide_eq_true e]; rfl
theorem valG_neg {z : κ × Int} {kv : List (κ × Int)} {k : κ} (e : ¬ z.1 = k) : valG (z :: kv) k = valG kv k := by unfold valG; rw [List.find?_cons, decide_eq_false e]
theorem valV_dF {f : κ → κ'} (hf : ∀ a b, f a = f b → a = b) (k : κ) : ∀ kv : List (κ × Int), valV (dF f kv) (f k) = (valG kv k).map V.int
  | [] => rfl
  | z :: kv => by
    show valV ((f z.1, V.int z.2) :: dF f kv) (f k) = _
    by_cases e : z.1 = k
    · rw [valV_pos (p := (f z.1, V.int z.2)) (congrArg f e), valG_pos e]; rfl
    · rw [valV_neg (p := (f z.1, V.int z.2)) (fun q => e (hf _ _ q)), valV_dF hf k kv, valG_neg e]
theorem putK_dF {f : κ → κ'} (hf : ∀ a b, f a = f b → a = b) (kv : List (κ × Int)) (k : κ) (n : Int) : putK (dF f kv) (f k) (.int n) = dF f (putG kv k n) := by
  unfold putK putG dF
  have e1 : ((kv.map fun z => (f z.1, V.int z.2)).any fun kv => decide (kv.1 = f k)) = kv.any fun z => decide (z.1 = k) := by
    rw [List.any_map]
    congr 1; funext z
    exact decide_eq_decide.mpr ⟨hf _ _, congrArg f⟩
  rw [e1]
  split
  · rw [List.map_map, List.map_map]
    refine List.map_congr_left fun z _ => ?_
    show (if f z.1 = f k then (f z.1, V.int n) else (f z.1, V.int z.2)) = (f (if z.1 = k then (z.1, n) else z).1, V.int (if z.1 = k then (z.1, n) else z).2)
    by_cases e : z.1 = k
    · rw [if_pos (congrArg f e), if_pos e]
    · rw [if_neg (fun q => e (hf _ _ q)), if_neg e]
  · rw [List.map_append]; rfl
theorem putG_len (kv : List (κ × Int)) (k : κ) (n : Int) : (putG kv k n).length ≤ kv.length + 1 := by
  unfold putG
  split
  · rw [List.length_map]; omega
  · rw [List.length_append]; exact Nat.le_refl _
theorem sumG_snoc (zs : List (κ × Int)) (z : κ × Int) : sumG (zs ++ [z]) = addG (sumG zs) z := by unfold sumG; rw [List.foldl_append]; rfl
theorem sumG_len (zs : List (κ × Int)) : (sumG zs).length ≤ zs.length := by
  have : ∀ (zs s : List (κ × Int)), (zs.foldl addG s).length ≤ s.length + zs.length := fun zs => by
    induction zs with
    | nil => exact fun s => Nat.le_refl _
    | cons z zs ih =>
      intro s
      have h1 := ih (addG s z)
      have h2 : (addG s z).length ≤ s.length + 1 := putG_len _ _ _
      rw [List.foldl_cons, List.length_cons]
      omega
  have := this zs []
  unfold sumG
  simpa using this
theorem sumG_take {zs : List (κ × Int)} {i : Nat} {z : κ × Int} (h : zs[i]? = some z) : sumG (zs.take (i + 1)) = addG (sumG (zs.take i)) z := by
  rw [List.take_succ, h]; exact sumG_snoc _ _
end
theorem inl_inj' (a b : Int) (h : (Sum.inl a : Key) = Sum.inl b) : a = b := Sum.inl.inj h
theorem pK_inj' (a b : Int × Int) (h : pK a = pK b) : a = b := by
  unfold pK at h
  simp only [List.cons.injEq, Sum.inl.injEq, and_true] at h
  exact Prod.ext h.1 h.2
@[irreducible] def sp_summed : Sp := fun vs H Q _ =>
  (∃ (p : Addr) (ts : List Addr) (zs : List (Int × Int)), vs = [.ref p] ∧ H p = some (.lst (ts.map V.ref)) ∧ ts.length = zs.length ∧ zs.length ≤ 2000 ∧ (∀ (i : Nat) t z, ts[i]? = some t → zs[i]? = some z → H t = some (.tup [.int z.1, .int z.2])) ∧ ∀ r H', H r = none → Same H H' → H' r = some (.dK (dF Sum.inl (sumG zs))) → Q (.ref r) H') ∨
  ∃ (p : Addr) (ts : List (Addr × Addr)) (zs : List ((Int × Int) × Int)), vs = [.ref p] ∧ H p = some (.lst (ts.map fun t => V.ref t.1)) ∧ ts.length = zs.length ∧ zs.length ≤ 2000 ∧ (∀ (i : Nat) t z, ts[i]? = some t → zs[i]? = some z → H t.1 = some (.tup [.ref t.2, .int z.2]) ∧ H t.2 = some (.tup (pV z.1))) ∧ ∀ r H', H r = none → Same H H' → H' r = some (.dT (dF pK (sumG zs))) → Q (.ref r) H'
theorem summedI_rd {H : Hp} {p : Addr} {ts : List Addr} {zs : List (Int × Int)} {Q : VK} {E : XK} (hp : H p = some (.lst (ts.map V.ref))) (hl : ts.length = zs.length) (hz : zs.length ≤ 2000) (ht : ∀ (i : Nat) t z, ts[i]? = some t → zs[i]? = some z → H t = some (.tup [.int z.1, .int z.2])) (q : ∀ r H', H r = none → Same H H' → H' r = some (.dK (dF Sum.inl (sumG zs))) → Q (.ref r) H') : sp_summed [.ref p] H Q E := by
  unfold sp_summed; exact .inl ⟨p, ts, zs, rfl, hp, hl, hz, ht, q⟩
theorem summedP_rd {H : Hp} {p : Addr} {ts : List (Addr × Addr)} {zs : List ((Int × Int) × Int)} {Q : VK} {E : XK} (hp : H p = some (.lst (ts.map fun t => V.ref t.1))) (hl : ts.length = zs.length) (hz : zs.length ≤ 2000) (ht : ∀ (i : Nat) t z, ts[i]? = some t → zs[i]? = some z → H t.1 = some (.tup [.ref t.2, .int z.2]) ∧ H t.2 = some (.tup (pV z.1))) (q : ∀ r H', H r = none → Same H H' → H' r = some (.dT (dF pK (sumG zs))) → Q (.ref r) H') : sp_summed [.ref p] H Q E := by
  unfold sp_summed; exact .inr ⟨p, ts, zs, rfl, hp, hl, hz, ht, q⟩
theorem ok_summed {f : Addr} {fd : FuncData} (F : Fun K "summed" "summed" s_summed f fd) (N : Nm mg) : FnOk P w K mg base CX0 1 f fd ["pairs"] sp_summed := by
  refine F.ok sc_summed (fun vs H Q E h => by unfold sp_summed at h; rcases h with ⟨_, _, _, rfl, _⟩ | ⟨_, _, _, rfl, _⟩ <;> rfl) (fun cdv A outer s H vs Q E hr h => ?_)
  unfold sp_summed at h
  have hu := hu40 hr
  refine ⟨_, (pss_cons (psS (i := 1) sc_summed.nd peDNewE)
      (pss_cons (psFor PassesOwn.never rfl (piSeqK (K := K) rfl (pq 0)) (pgAnyK (K := K) (n := 2) rfl rfl (pgsCons (pg_name (i := 2) sc_summed.nd rfl (by first | exact Or.inl rfl | exact Or.inr rfl)) (pgsCons (pg_name (i := 3) sc_summed.nd rfl (by first | exact Or.inl rfl | exact Or.inr rfl)) pgsNil))) (pss_one (psDPut (by exact hu) (pq 1) (pq 2) (pe_op oAdd (peM_get2 (by exact hu) (pq 1) (pq 2) pe_int) (pq 3)))))
      (pss_one (ps_ret (pq 1))))), ?_⟩
  rcases h with ⟨p, ts, zs, rfl, hp, hl, hz, ht, q⟩ | ⟨p, ts, zs, rfl, hp, hl, hz, ht, q⟩
  · walk_at "wh"
    refine dnK_rd (fun r H1 f1 s1 h1 => ?_)
    have npr : p ≠ r := ne_of_none hp f1
    refine iterL_rd (s1 _ _ hp) ?_
    refine loop_list (xs := ts.map V.ref) (fun i σ I => ∃ t u : Option V, σ = [some (.ref p), some (.ref r), t, u] ∧ Chg r H1 I ∧ I r = some (.dK (dF Sum.inl (sumG (zs.take i))))) ?_ ?_ ?_ ?_
    · exact ⟨_, _, rfl, Chg.refl _ _, h1⟩
    · rintro i σ I _ ⟨_, _, _, c, _⟩
      exact SqL.of (c _ _ npr (s1 _ _ hp))
    · rintro i v σ I hi ⟨t', u', rfl, c, hr'⟩
      rw [List.getElem?_map] at hi
      obtain ⟨t, et, rfl⟩ := Option.map_eq_some_iff.mp hi
      obtain ⟨z, ez⟩ : ∃ z, zs[i]? = some z := ⟨_, List.getElem?_eq_getElem (by have := (List.getElem?_eq_some_iff.mp et).1; omega)⟩
      have e0 := ht i t z et ez
      have e1 := c _ _ (ne_of_none e0 f1) (s1 _ _ e0)
      refine unpT_rd e1 ?_
      refine isdK_rd hr' ?_
      refine dg2K_rd hr' ?_
      have ev : (valV (dF Sum.inl (sumG (zs.take i))) (Sum.inl z.1 : Key)).getD (V.int 0) = .int ((valG (sumG (zs.take i)) z.1).getD 0) := by
        rw [valV_dF inl_inj']
        cases valG (sumG (zs.take i)) z.1 <;> rfl
      rw [ev]
      refine dpK_rd hr' (by unfold dF; rw [List.length_map, sizeLine_eq]; have := sumG_len (zs.take i); rw [List.length_take] at this; omega) (fun I2 c2 h2 => ?_)
      rw [putK_dF inl_inj'] at h2
      walk_at "wh"
      exact ⟨_, _, rfl, c.trans c2, by rw [sumG_take ez]; exact h2⟩
    · rintro σ I ⟨t', u', rfl, c, hr'⟩
      rw [List.length_map, hl, List.take_length] at hr'
      walk_at "wh"
      exact q r I f1 (s1.chg f1 c) hr'
  · walk_at "wh"
    refine dnT_rd (fun r H1 f1 s1 h1 => ?_)
    have npr : p ≠ r := ne_of_none hp f1
    refine iterL_rd (s1 _ _ hp) ?_
    refine loop_list (xs := ts.map fun t => V.ref t.1) (fun i σ I => ∃ t u : Option V, σ = [some (.ref p), some (.ref r), t, u] ∧ Chg r H1 I ∧ I r = some (.dT (dF pK (sumG (zs.take i))))) ?_ ?_ ?_ ?_
    · exact ⟨_, _, rfl, Chg.refl _ _, h1⟩
    · rintro i σ I _ ⟨_, _, _, c, _⟩
      exact SqL.of (c _ _ npr (s1 _ _ hp))
    · rintro i v σ I hi ⟨t', u', rfl, c, hr'⟩
      rw [List.getElem?_map] at hi
      obtain ⟨t, et, rfl⟩ := Option.map_eq_some_iff.mp hi
      obtain ⟨z, ez⟩ : ∃ z, zs[i]? = some z := ⟨_, List.getElem?_eq_getElem (by have := (List.getElem?_eq_some_iff.mp et).1; omega)⟩
      obtain ⟨e0, e0'⟩ := ht i t z et ez
      have e1 := c _ _ (ne_of_none e0 f1) (s1 _ _ e0)
      have e2 := c _ _ (ne_of_none e0' f1) (s1 _ _ e0')
      refine unpT_rd e1 ?_
      refine isdT_rd hr' ?_
      refine dg2T_rd hr' (k := pK z.1) e2 ?_
      have ev : (valV (dF pK (sumG (zs.take i))) (pK z.1)).getD (V.int 0) = .int ((valG (sumG (zs.take i)) z.1).getD 0) := by
        rw [valV_dF pK_inj']
        cases valG (sumG (zs.take i)) z.1 <;> rfl
      rw [ev]
      refine dpT_rd hr' (k := pK z.1) e2 (by unfold dF; rw [List.length_map, sizeLine_eq]; have := sumG_len (zs.take i); rw [List.length_take] at this; omega) (fun I2 c2 h2 => ?_)
      rw [putK_dF pK_inj'] at h2
      walk_at "wh"
      exact ⟨_, _, rfl, c.trans c2, by rw [sumG_take ez]; exact h2⟩
    · rintro σ I ⟨t', u', rfl, c, hr'⟩
      rw [List.length_map, hl, List.take_length] at hr'
      walk_at "wh"
      exact q r I f1 (s1.chg f1 c) hr'
-- @@split
/-! ### streams, of things of any kind -/
def triD : PyData → Int × Int × Int
  | .tuple [a, b, c] => (intD a, intD b, intD c)
  | _ => (0, 0, 0)
def rowF (d : PyData) : List (Int × Int × Int) := (itemsD d).map triD
def beginsD : PyData → Bool
  | .list ds => decide (0 < ds.length) && rowD (ds.getD 0 .none) && decide (0 < (itemsD (ds.getD 0 .none)).length)
  | _ => false
/-- a row -/
theorem row_of {H : Hp} {v : V} {d : PyData} (h : ShV H v d) (e : rowD d = true) : ∃ (a : Addr) (ts : List Addr) (ds : List PyData), v = .ref a ∧ d = .list ds ∧ H a = some (.lst (ts.map V.ref)) ∧ ts.length = ds.length ∧ (∀ (i : Nat) t x, ts[i]? = some t → (rowF d)[i]? = some x → H t = some (.tup [.int x.1, .int x.2.1, .int x.2.2])) ∧ ∀ x ∈ rowF d, 0 ≤ x.2.1 ∧ x.2.1 ≤ x.1 ∧ 1 ≤ x.2.2 := by
  cases h
  case lst a xs ds e1 l =>
    have e : (ds.all flowD && incD ds) = true := e
    have ea := List.all_eq_true.mp (Bool.and_eq_true_iff.mp e).1
    have key : ∀ {xs : List V} {ds : List PyData}, ShL H xs ds → (∀ d ∈ ds, flowD d = true) → ∃ ts : List Addr, xs = ts.map V.ref ∧ (∀ (i : Nat) t x, ts[i]? = some t → (ds.map triD)[i]? = some x → H t = some (.tup [.int x.1, .int x.2.1, .int x.2.2])) ∧ ∀ x ∈ ds.map triD, 0 ≤ x.2.1 ∧ x.2.1 ≤ x.1 ∧ 1 ≤ x.2.2 := fun {xs ds} l ea => by
      induction ds generalizing xs with
      | nil => cases l; exact ⟨[], rfl, fun i t x h => by simp at h, fun x h => by cases h⟩
      | cons d ds ih =>
        cases l with
        | cons h1 l =>
          obtain ⟨ts, rfl, k1, k2⟩ := ih l fun d hd => ea d (.tail _ hd)
          obtain ⟨t, i, j, w, rfl, ht, rfl, hj1, hj2, hw⟩ := flow_of h1 (ea _ (.head _))
          refine ⟨t :: ts, rfl, fun n t' x g1 g2 => ?_, fun x hx => ?_⟩
          · match n with
            | 0 => cases g1; cases g2; exact ht
            | n + 1 => exact k1 n t' x g1 g2
          · rcases List.mem_cons.mp hx with rfl | hx
            · exact ⟨hj1, hj2, hw⟩
            · exact k2 x hx
    obtain ⟨ts, rfl, k1, k2⟩ := key l ea
    exact ⟨a, ts, ds, rfl, rfl, e1, by have := l.len; rwa [List.length_map] at this, k1, k2⟩
  all_goals simp [rowD] at e
theorem rowF_len (ds : List PyData) : (rowF (.list ds)).length = ds.length := by unfold rowF; rw [List.length_map]; rfl
@[irreducible] def sp_begins : Sp := fun vs H Q _ => ∃ (v : V) (d : PyData), vs = [v] ∧ ShV H v d ∧ sml d = true ∧ ∀ H', Same H H' → Q (.bl (beginsD d)) H'
theorem beginsD_rd {H : Hp} {v : V} {d : PyData} {Q : VK} {E : XK} (h : ShV H v d) (hs : sml d = true) (q : ∀ H', Same H H' → Q (.bl (beginsD d)) H') : sp_begins [v] H Q E := by unfold sp_begins; exact ⟨v, d, rfl, h, hs, q⟩
theorem ok_begins {f : Addr} {fd : FuncData} (F : Fun K "begins" "begins" s_begins f fd) (N : Nm mg) (D_is_row : Def P w K mg base CX0 5 "is_row" ["row"] sp_is_row) : FnOk P w K mg base CX0 6 f fd ["stream"] sp_begins := by
  refine F.ok sc_begins (fun vs H Q E h => by unfold sp_begins at h; obtain ⟨_, _, rfl, _⟩ := h; rfl) (fun cdv A outer s H vs Q E hr h => ?_)
  unfold sp_begins at h
  obtain ⟨v, d, rfl, h, hs, q⟩ := h
  have hu := hu40 hr
  refine ⟨_, (pss_one (ps_ret (peAnd (pB (cIsiK (K := K) rfl) N.isinstance_ bt_isinstance (pa_cons (pq 0) (pa_cons (pTy N.list_ bt_list) pa_nil))) (peAnd (peC oGt (pB (cLenK (K := K) rfl) N.len_ bt_len (pa_cons (pq 0) pa_nil)) pe_int) (peAnd (pD D_is_row hr pass0 (pa_cons (peIxK (K := K) rfl (pq 0) pe_int) pa_nil)) (pe_one (peC oGt (pB (cLenK (K := K) rfl) N.len_ bt_len (pa_cons (peIxK (K := K) rfl (pq 0) pe_int) pa_nil)) pe_int))))))), ?_⟩
  refine isiD_rd' h (.inr (.inr (.inl rfl))) ?_
  cases h
  case lst a xs ds e l =>
    have ll := l.len
    obtain ⟨dl, dm⟩ := sml_len hs
    have q : ∀ H', Same H H' → Q (.bl (decide (0 < ds.length) && rowD (ds.getD 0 .none) && decide (0 < (itemsD (ds.getD 0 .none)).length))) H' := q
    refine br_T ?_
    refine lenL_rd e ?_
    rw [ll]
    refine br_dec (fun h0 => ?_) (fun h0 => ?_)
    · rw [decide_eq_true (show 0 < ds.length by walk_at "om"), Bool.true_and] at q
      obtain ⟨x0, ex0⟩ : ∃ x, xs[0]? = some x := ⟨_, List.getElem?_eq_getElem (by walk_at "om")⟩
      obtain ⟨d0, ed0, hd0⟩ := l.get 0 x0 ex0
      rw [getD_some ed0] at q
      have at0 : atI xs 0 = some x0 := atI_nat (j := 0) ex0
      refine ixL_rd (v := x0) e at0 ?_
      refine rowD_rd hd0 (dm d0 (List.mem_of_getElem? ed0)) (fun H1 s1 => ?_)
      cases er : rowD d0
      · have q := q _ s1
        rw [er] at q
        refine br_F ?_
        walk_at "wh"
        exact q
      · have q := q _ s1
        rw [er, Bool.true_and] at q
        obtain ⟨b, ts, es, rfl, rfl, hb, hl, _⟩ := row_of hd0 er
        refine br_T ?_
        refine ixL_rd (v := .ref b) (s1 _ _ e) at0 ?_
        refine lenL_rd (s1 _ _ hb) ?_
        rw [List.length_map, hl]
        walk_at "wh"
        have ed : decide ((es.length : Int) > 0) = decide (0 < (itemsD (.list es)).length) := decide_eq_decide.mpr (by show (es.length : Int) > 0 ↔ 0 < es.length; omega)
        first | (rw [← ed] at q; exact q) | exact q
    · have q := q _ (Same.refl _)
      rw [decide_eq_false (show ¬ 0 < ds.length by walk_at "om")] at q
      walk_at "wh"
      exact q
  all_goals (walk_at "wh"; refine br_F ?_; walk_at "wh"; exact q _ (Same.refl _))
def meetsD (a b : PyData) : Bool := eqDI (sumG ((rowF a).map fun z => (z.1 - z.2.1, z.2.2))) (sumG ((rowF b).map fun z => (z.1, z.2.2)))
@[irreducible] def sp_meets : Sp := fun vs H Q _ => ∃ (v u : V) (d e : PyData), vs = [v, u] ∧ ShV H v d ∧ ShV H u e ∧ rowD d = true ∧ rowD e = true ∧ (itemsD d).length ≤ 1000 ∧ (itemsD e).length ≤ 1000 ∧ ∀ H', Same H H' → Q (.bl (meetsD d e)) H'
theorem meetsD_rd {H : Hp} {v u : V} {d e : PyData} {Q : VK} {E : XK} (hv : ShV H v d) (hu : ShV H u e) (rd : rowD d = true) (re : rowD e = true) (ld : (itemsD d).length ≤ 1000) (le : (itemsD e).length ≤ 1000) (q : ∀ H', Same H H' → Q (.bl (meetsD d e)) H') : sp_meets [v, u] H Q E := by unfold sp_meets; exact ⟨v, u, d, e, rfl, hv, hu, rd, re, ld, le, q⟩
theorem ok_meets {f : Addr} {fd : FuncData} (F : Fun K "meets" "meets" s_meets f fd) (N : Nm mg) (D_summed : Def P w K mg base CX0 1 "summed" ["pairs"] sp_summed) : FnOk P w K mg base CX0 2 f fd ["ahead", "row"] sp_meets := by
  refine F.ok sc_meets (fun vs H Q E h => by unfold sp_meets at h; obtain ⟨_, _, _, _, rfl, _⟩ := h; rfl) (fun cdv A outer s H vs Q E hr h => ?_)
  unfold sp_meets at h
  obtain ⟨v, u, d, e, rfl, hv, hu', rd, re, ld, le, q⟩ := h
  have hu := hu40 hr
  obtain ⟨a, ts, ds, rfl, rfl, ha, hl, hp, _⟩ := row_of hv rd
  obtain ⟨b, us, es, rfl, rfl, hb, hl', hp', _⟩ := row_of hu' re
  have ld : ds.length ≤ 1000 := ld
  have le : es.length ≤ 1000 := le
  refine ⟨_, (pss_cons (psS (i := 2) sc_meets.nd (pD D_summed hr pass0 (pa_cons (peComp (N := ["left", "sent", "flow"]) (ks := [none, none, none]) (piSeqK (K := K) rfl (pq 0)) (fun cl C s3 H3 fp => (pgAnyK (K := K) (n := 3) rfl rfl (pgsCons (pg_name (i := 0) nb_5 rfl (by first | exact Or.inl rfl | exact Or.inr rfl)) (pgsCons (pg_name (i := 1) nb_5 rfl (by first | exact Or.inl rfl | exact Or.inr rfl)) (pgsCons (pg_name (i := 2) nb_5 rfl (by first | exact Or.inl rfl | exact Or.inr rfl)) pgsNil))))) (fun cl C s3 H3 fp => pts_nil) (fun cl C s3 H3 fp => (peTup (pa_cons (pe_op oSub (pq 0) (pq 1)) (pa_cons (pq 2) pa_nil)))) (.skip (.skip (.skip .nil)))) pa_nil)))
      (pss_one (ps_ret (peC (oEqXK (K := K) rfl (by exact hu)) (pq 2) (pD D_summed hr pass0 (pa_cons (peComp (N := ["left", "sent", "flow"]) (ks := [none, none, none]) (piSeqK (K := K) rfl (pq 1)) (fun cl C s3 H3 fp => (pgAnyK (K := K) (n := 3) rfl rfl (pgsCons (pg_name (i := 0) nb_5 rfl (by first | exact Or.inl rfl | exact Or.inr rfl)) (pgsCons (pg_name (i := 1) nb_5 rfl (by first | exact Or.inl rfl | exact Or.inr rfl)) (pgsCons (pg_name (i := 2) nb_5 rfl (by first | exact Or.inl rfl | exact Or.inr rfl)) pgsNil))))) (fun cl C s3 H3 fp => pts_nil) (fun cl C s3 H3 fp => (peTup (pa_cons (pq 0) (pa_cons (pq 2) pa_nil)))) (.skip (.skip (.skip .nil)))) pa_nil)))))), ?_⟩
  refine iterL_rd ha ?_
  refine comp_F (Wk.list (SqL.of ha)) (by rw [List.length_map, sizeLine_eq]; omega) (fun i => .tup [.int (((rowF (.list ds)).getD i (0, 0, 0)).1 - ((rowF (.list ds)).getD i (0, 0, 0)).2.1), .int ((rowF (.list ds)).getD i (0, 0, 0)).2.2]) (fun j σ => ∃ t u w : Option V, σ = [t, u, w]) ⟨none, none, none, rfl⟩ ?_ ?_
  · rintro i x σ I R S hi s1 hx ⟨_, _, _, rfl⟩ k
    rw [List.length_map] at hi
    rw [List.getElem?_map] at hx
    obtain ⟨t, et, rfl⟩ := Option.map_eq_some_iff.mp hx
    obtain ⟨z, ez⟩ : ∃ z, (rowF (.list ds))[i]? = some z := ⟨_, List.getElem?_eq_getElem (by rw [rowF_len]; omega)⟩
    rw [show (rowF (.list ds)).getD i (0, 0, 0) = z by rw [List.getD_eq_getElem?_getD, ez]; rfl] at k
    refine unpT_rd (s1 _ _ (hp i t z et ez)) ?_
    refine br_T ?_
    refine newT_rd (fun p I1 f1 r1 k1 => ?_)
    walk_at "wh"
    exact k _ _ _ f1 r1 k1 ⟨_, _, _, rfl⟩
  rintro l1 ps1 H1 F1
  rw [List.length_map] at F1
  refine summedI_rd (zs := (rowF (.list ds)).map fun z => (z.1 - z.2.1, z.2.2)) F1.out (by rw [F1.len, List.length_map, rowF_len]; exact hl) (by rw [List.length_map, rowF_len]; omega) (fun i t z g1 g2 => ?_) (fun r2 H2 f2 s2 h2 => ?_)
  · rw [List.getElem?_map] at g2
    obtain ⟨y, ey, rfl⟩ := Option.map_eq_some_iff.mp g2
    have := (F1.row i t g1).2
    rw [show (rowF (.list ds)).getD i (0, 0, 0) = y by rw [List.getD_eq_getElem?_getD, ey]; rfl] at this
    exact this
  have hb2 := s2 _ _ (F1.same _ _ hb)
  refine iterL_rd hb2 ?_
  refine comp_F (Wk.list (SqL.of hb2)) (by rw [List.length_map, sizeLine_eq]; omega) (fun i => .tup [.int ((rowF (.list es)).getD i (0, 0, 0)).1, .int ((rowF (.list es)).getD i (0, 0, 0)).2.2]) (fun j σ => ∃ t u w : Option V, σ = [t, u, w]) ⟨none, none, none, rfl⟩ ?_ ?_
  · rintro i x σ I R S hi s1 hx ⟨_, _, _, rfl⟩ k
    rw [List.length_map] at hi
    rw [List.getElem?_map] at hx
    obtain ⟨t, et, rfl⟩ := Option.map_eq_some_iff.mp hx
    obtain ⟨z, ez⟩ : ∃ z, (rowF (.list es))[i]? = some z := ⟨_, List.getElem?_eq_getElem (by rw [rowF_len]; omega)⟩
    rw [show (rowF (.list es)).getD i (0, 0, 0) = z by rw [List.getD_eq_getElem?_getD, ez]; rfl] at k
    refine unpT_rd (s1 _ _ (s2 _ _ (F1.same _ _ (hp' i t z et ez)))) ?_
    refine br_T ?_
    refine newT_rd (fun p I1 f1 r1 k1 => ?_)
    walk_at "wh"
    exact k _ _ _ f1 r1 k1 ⟨_, _, _, rfl⟩
  rintro l3 ps3 H3 F3
  rw [List.length_map] at F3
  refine summedI_rd (zs := (rowF (.list es)).map fun z => (z.1, z.2.2)) F3.out (by rw [F3.len, List.length_map, rowF_len]; exact hl') (by rw [List.length_map, rowF_len]; omega) (fun i t z g1 g2 => ?_) (fun r4 H4 f4 s4 h4 => ?_)
  · rw [List.getElem?_map] at g2
    obtain ⟨y, ey, rfl⟩ := Option.map_eq_some_iff.mp g2
    have := (F3.row i t g1).2
    rw [show (rowF (.list es)).getD i (0, 0, 0) = y by rw [List.getD_eq_getElem?_getD, ey]; rfl] at this
    exact this
  refine eqD_rd (s4 _ _ (F3.same _ _ h2)) h4 ?_
  walk_at "wh"
  exact q _ (((F1.same.trans s2).trans F3.same).trans s4)
-- @@split
def fullD (h : Int) (d : PyData) : Bool := (rowF d).all fun z => decide (z.1 = h)
def goneD (d : PyData) : Bool := (rowF d).all fun z => decide (z.1 = z.2.1)
def meetAll (ds : List PyData) : Bool := (List.range (ds.length - 1)).all fun i => meetsD (ds.getD i .none) (ds.getD (i + 1) .none)
def streamD (h f : Int) (d : PyData) : Bool := beginsD d && (decide (((itemsD d).length : Int) = f) && ((itemsD d).all rowD && (fullD h ((itemsD d).getD 0 .none) && (goneD ((itemsD d).getD ((itemsD d).length - 1) .none) && meetAll (itemsD d)))))
theorem all_mapG {α : Type} (g : α → Bool) (xs : List α) : (xs.map g).all id = xs.all g := by rw [List.all_map]; rfl
theorem range_tri {xs : List (Int × Int × Int)} (g : Int × Int × Int → Bool) : (List.range xs.length).map (fun i => V.bl (g (xs.getD i (0, 0, 0)))) = (xs.map g).map V.bl := by
  apply List.ext_getElem?
  intro i
  rw [List.getElem?_map, List.getElem?_map, List.getElem?_map]
  by_cases h : i < xs.length
  · rw [List.getElem?_range h, List.getElem?_eq_getElem h]
    simp [h]
  · rw [List.getElem?_eq_none (by simp; omega), List.getElem?_eq_none (by walk_at "om")]
    rfl
@[irreducible] def sp_is_stream : Sp := fun vs H Q _ => ∃ (h f : Int) (v : V) (d : PyData), vs = [.int h, .int f, v] ∧ ShV H v d ∧ sml d = true ∧ ∀ H', Same H H' → Q (.bl (streamD h f d)) H'
theorem streamD_rd {H : Hp} {h f : Int} {v : V} {d : PyData} {Q : VK} {E : XK} (hv : ShV H v d) (hs : sml d = true) (q : ∀ H', Same H H' → Q (.bl (streamD h f d)) H') : sp_is_stream [.int h, .int f, v] H Q E := by unfold sp_is_stream; exact ⟨h, f, v, d, rfl, hv, hs, q⟩
set_option maxHeartbeats 0 in
theorem ok_is_stream {f : Addr} {fd : FuncData} (F : Fun K "is_stream" "is_stream" s_is_stream f fd) (N : Nm mg) (D_begins : Def P w K mg base CX0 6 "begins" ["stream"] sp_begins) (D_is_row : Def P w K mg base CX0 5 "is_row" ["row"] sp_is_row) (D_meets : Def P w K mg base CX0 2 "meets" ["ahead", "row"] sp_meets) : FnOk P w K mg base CX0 7 f fd ["hosts", "fields", "stream"] sp_is_stream := by
  refine F.ok sc_is_stream (fun vs H Q E h => by unfold sp_is_stream at h; obtain ⟨_, _, _, _, rfl, _⟩ := h; rfl) (fun cdv A outer s H vs Q E hr h => ?_)
  unfold sp_is_stream at h
  obtain ⟨h, f, v, d, rfl, hv, hs, q⟩ := h
  have hu := hu40 hr
  refine ⟨_, (pss_cons (psIf (ptW (pwOr (pt_not (ptV (pD D_begins hr pass0 (pa_cons (pq 2) pa_nil)))) (pwOr (ptC (oNeXK (K := K) rfl (by exact hu)) (pB (cLenK (K := K) rfl) N.len_ bt_len (pa_cons (pq 2) pa_nil)) (pq 1)) (pw_or1 (pt_not (ptV (pB (cAllK (K := K) rfl rfl) N.all_ bt_all (pa_cons (peComp (N := ["row"]) (ks := [none]) (piSeqK (K := K) rfl (pq 2)) (fun cl C s3 H3 fp => (pg_name (i := 0) nb_6 rfl (by first | exact Or.inl rfl | exact Or.inr rfl))) (fun cl C s3 H3 fp => pts_nil) (fun cl C s3 H3 fp => (pD D_is_row hr pass0 (pa_cons (pq 0) pa_nil))) (.skip .nil)) pa_nil)))))))) (pss_one (ps_ret pe_bl)) pss_nil)
      (pss_cons (psS (i := 3) sc_is_stream.nd (pB (cAllK (K := K) rfl rfl) N.all_ bt_all (pa_cons (peComp (N := ["left", "sent", "flow", "hosts"]) (ks := [none, none, none, some 0]) (piSeqK (K := K) rfl (peIxK (K := K) rfl (pq 2) pe_int)) (fun cl C s3 H3 fp => (pgAnyK (K := K) (n := 3) rfl rfl (pgsCons (pg_name (i := 0) nb_7 rfl (by first | exact Or.inl rfl | exact Or.inr rfl)) (pgsCons (pg_name (i := 1) nb_7 rfl (by first | exact Or.inl rfl | exact Or.inr rfl)) (pgsCons (pg_name (i := 2) nb_7 rfl (by first | exact Or.inl rfl | exact Or.inr rfl)) pgsNil))))) (fun cl C s3 H3 fp => pts_nil) (fun cl C s3 H3 fp => (peC (oEqXK (K := K) rfl (by exact hu)) (pq 0) (pq 3))) (.skip (.skip (.skip (.take rfl rfl (by first | exact Or.inl rfl | exact Or.inr rfl) .nil))))) pa_nil)))
      (pss_cons (psS (i := 4) sc_is_stream.nd (pB (cAllK (K := K) rfl rfl) N.all_ bt_all (pa_cons (peComp (N := ["left", "sent", "flow"]) (ks := [none, none, none]) (piSeqK (K := K) rfl (peIxK (K := K) rfl (pq 2) (pe_un uNeg pe_int))) (fun cl C s3 H3 fp => (pgAnyK (K := K) (n := 3) rfl rfl (pgsCons (pg_name (i := 0) nb_8 rfl (by first | exact Or.inl rfl | exact Or.inr rfl)) (pgsCons (pg_name (i := 1) nb_8 rfl (by first | exact Or.inl rfl | exact Or.inr rfl)) (pgsCons (pg_name (i := 2) nb_8 rfl (by first | exact Or.inl rfl | exact Or.inr rfl)) pgsNil))))) (fun cl C s3 H3 fp => pts_nil) (fun cl C s3 H3 fp => (peC (oEqXK (K := K) rfl (by exact hu)) (pq 0) (pq 1))) (.skip (.skip (.skip .nil)))) pa_nil)))
      (pss_one (ps_ret (peAnd (pq 3) (peAnd (pq 4) (pe_one (pB (cAllK (K := K) rfl rfl) N.all_ bt_all (pa_cons (peComp (N := ["ahead", "row"]) (ks := [none, none]) (piZipK (K := K) rfl N.zip_ (pa_cons (pq 2) (pa_cons (pe_slice (slXK (K := K) rfl) (pq 2) (poSome pe_int) po_none) pa_nil))) (fun cl C s3 H3 fp => (pgAnyK (K := K) (n := 2) rfl rfl (pgsCons (pg_name (i := 0) nb_9 rfl (by first | exact Or.inl rfl | exact Or.inr rfl)) (pgsCons (pg_name (i := 1) nb_9 rfl (by first | exact Or.inl rfl | exact Or.inr rfl)) pgsNil)))) (fun cl C s3 H3 fp => pts_nil) (fun cl C s3 H3 fp => (pD D_meets hr pass0 (pa_cons (pq 0) (pa_cons (pq 1) pa_nil)))) (.skip (.skip .nil))) pa_nil)))))))))), ?_⟩
  refine beginsD_rd hv hs (fun H1 s1 => ?_)
  unfold streamD at q
  cases eb : beginsD d
  · have q := q _ s1
    rw [eb] at q
    refine br_not (br_F ?_)
    refine br_T ?_
    walk_at "wh"
    exact q
  cases hv
  case lst a xs ds e l =>
    have q : ∀ H', Same H H' → Q (.bl (true && (decide ((ds.length : Int) = f) && (ds.all rowD && (fullD h (ds.getD 0 .none) && (goneD (ds.getD (ds.length - 1) .none) && meetAll ds)))))) H' := fun H' s' => by
      have q := q H' s'
      rw [eb] at q
      exact q
    have ll := l.len
    obtain ⟨dl, dm⟩ := sml_len hs
    have d0 : 0 < ds.length := by
      have eb : (decide (0 < ds.length) && rowD (ds.getD 0 .none) && decide (0 < (itemsD (ds.getD 0 .none)).length)) = true := eb
      rw [Bool.and_eq_true, Bool.and_eq_true] at eb
      exact of_decide_eq_true eb.1.1
    have e1 := s1 _ _ e
    refine br_not (br_T ?_)
    refine lenL_rd e1 ?_
    rw [ll]
    refine br_not (br_dec (fun hf => ?_) (fun hf => ?_))
    · rw [decide_eq_true hf, Bool.true_and, Bool.true_and] at q
      refine iterL_rd e1 ?_
      refine comp_I (Wk.list (SqL.of e1)) (by rw [sizeLine_eq]; omega) (fun i => .bl (rowD (ds.getD i .none))) (fun _ => true) (fun j σ => ∃ t : Option V, σ = [t]) ⟨none, rfl⟩ ?_ ?_
      · rintro j x σ H2 R S hj s2 hx ⟨t, rfl⟩ k _
        obtain ⟨d, ed, hd⟩ := l.get j x hx
        refine br_T ?_
        refine rowD_rd (hd.same (s1.trans s2)) (dm d (List.mem_of_getElem? ed)) (fun H3 s3 => ?_)
        walk_at "wh"
        rw [← getD_some ed]
        exact k rfl _ _ s3 ⟨_, rfl⟩
      intro acc H2 f2 s2 h2
      rw [filter_T, ll, range_getB rowD] at h2
      have s02 := s1.trans s2
      refine all_rd h2 ?_
      rw [all_mapB]
      cases ea : ds.all rowD
      · have q := q _ s02
        rw [ea] at q
        refine br_not (br_F ?_)
        walk_at "wh"
        exact q
      have ea' : ∀ d ∈ ds, rowD d = true := List.all_eq_true.mp ea
      rw [ea, Bool.true_and] at q
      refine br_not (br_T ?_)
      -- the first row
      obtain ⟨x0, ex0⟩ : ∃ x, xs[0]? = some x := ⟨_, List.getElem?_eq_getElem (by walk_at "om")⟩
      obtain ⟨d0', ed0, hd0⟩ := l.get 0 x0 ex0
      have m0 := dm d0' (List.mem_of_getElem? ed0)
      obtain ⟨r0, ts0, es0, rfl, rfl, hr0, hl0, hp0, _⟩ := row_of hd0 (ea' d0' (List.mem_of_getElem? ed0))
      have b0 := (sml_len m0).1
      rw [getD_some ed0] at q
      have e2 := s2 _ _ e1
      refine ixL_rd (v := .ref r0) e2 (atI_nat (j := 0) ex0) ?_
      refine iterL_rd (s02 _ _ hr0) ?_
      refine comp_I (Wk.list (SqL.of (s02 _ _ hr0))) (by rw [List.length_map, sizeLine_eq]; omega) (fun i => .bl (decide (((rowF (.list es0)).getD i (0, 0, 0)).1 = h))) (fun _ => true) (fun j σ => ∃ t u w : Option V, σ = [t, u, w, some (.int h)]) ⟨none, none, none, rfl⟩ ?_ ?_
      · rintro i x σ I R S hi s3 hx ⟨_, _, _, rfl⟩ k _
        rw [List.length_map] at hi
        rw [List.getElem?_map] at hx
        obtain ⟨t, et, rfl⟩ := Option.map_eq_some_iff.mp hx
        obtain ⟨z, ez⟩ : ∃ z, (rowF (.list es0))[i]? = some z := ⟨_, List.getElem?_eq_getElem (by rw [rowF_len]; omega)⟩
        rw [show (rowF (.list es0)).getD i (0, 0, 0) = z by rw [List.getD_eq_getElem?_getD, ez]; rfl] at k
        refine unpT_rd (s3 _ _ (s02 _ _ (hp0 i t z et ez))) ?_
        refine br_T ?_
        walk_at "wh"
        exact k rfl _ _ (Same.refl _) ⟨_, _, _, rfl⟩
      intro acc3 H3 f3 s3 h3
      rw [filter_T, List.length_map, hl0, ← rowF_len es0, range_tri fun z => decide (z.1 = h)] at h3
      refine all_rd h3 ?_
      rw [all_mapG]
      -- the last row
      obtain ⟨x1, ex1⟩ : ∃ x, xs[ds.length - 1]? = some x := ⟨_, List.getElem?_eq_getElem (by walk_at "om")⟩
      obtain ⟨d1', ed1, hd1⟩ := l.get _ x1 ex1
      have m1 := dm d1' (List.mem_of_getElem? ed1)
      obtain ⟨r1, ts1, es1, rfl, rfl, hr1, hl1, hp1, _⟩ := row_of hd1 (ea' d1' (List.mem_of_getElem? ed1))
      have b1 := (sml_len m1).1
      rw [getD_some ed1] at q
      have s03 := s02.trans s3
      have e3 := s3 _ _ e2
      refine ixL_rd (v := .ref r1) e3 (at_last (n := ds.length - 1) (by walk_at "om") ex1) ?_
      refine iterL_rd (s03 _ _ hr1) ?_
      refine comp_I (Wk.list (SqL.of (s03 _ _ hr1))) (by rw [List.length_map, sizeLine_eq]; omega) (fun i => .bl (decide (((rowF (.list es1)).getD i (0, 0, 0)).1 = ((rowF (.list es1)).getD i (0, 0, 0)).2.1))) (fun _ => true) (fun j σ => ∃ t u w : Option V, σ = [t, u, w]) ⟨none, none, none, rfl⟩ ?_ ?_
      · rintro i x σ I R S hi s4 hx ⟨_, _, _, rfl⟩ k _
        rw [List.length_map] at hi
        rw [List.getElem?_map] at hx
        obtain ⟨t, et, rfl⟩ := Option.map_eq_some_iff.mp hx
        obtain ⟨z, ez⟩ : ∃ z, (rowF (.list es1))[i]? = some z := ⟨_, List.getElem?_eq_getElem (by rw [rowF_len]; omega)⟩
        rw [show (rowF (.list es1)).getD i (0, 0, 0) = z by rw [List.getD_eq_getElem?_getD, ez]; rfl] at k
        refine unpT_rd (s4 _ _ (s03 _ _ (hp1 i t z et ez))) ?_
        refine br_T ?_
        walk_at "wh"
        exact k rfl _ _ (Same.refl _) ⟨_, _, _, rfl⟩
      intro acc4 H4 f4 s4 h4
      rw [filter_T, List.length_map, hl1, ← rowF_len es1, range_tri fun z => decide (z.1 = z.2.1)] at h4
      refine all_rd h4 ?_
      rw [all_mapG]
      have s04 := s03.trans s4
      have e4 := s4 _ _ e3
      have q : ∀ H', Same H H' → Q (.bl ((rowF (.list es0)).all (fun z => decide (z.1 = h)) && ((rowF (.list es1)).all (fun z => decide (z.1 = z.2.1)) && meetAll ds))) H' := q
      walk_at "wh"
      cases e5 : (rowF (.list es0)).all (fun z => decide (z.1 = h))
      · have q := q _ s04
        rw [e5] at q
        refine br_F ?_
        walk_at "wh"
        exact q
      rw [e5, Bool.true_and] at q
      refine br_T ?_
      walk_at "wh"
      cases e6 : (rowF (.list es1)).all (fun z => decide (z.1 = z.2.1))
      · have q := q _ s04
        rw [e6] at q
        refine br_F ?_
        walk_at "wh"
        exact q
      rw [e6, Bool.true_and] at q
      refine br_T ?_
      refine slL_rd (SqL.of e4) (fun p5 H5 f5 s5 h5 => ?_)
      rw [cut_drop (by walk_at "om")] at h5
      have s05 := s04.trans s5
      refine zip_rd (SqL.of (s5 _ _ e4)) (SqL.of h5) ?_
      refine comp_I (Wk.zipN (n := ds.length - 1) (SqL.of (s5 _ _ e4)) (SqL.of h5) (by walk_at "om") (by rw [List.length_drop]; show _ ≤ _ - 1; omega) (.inr (by rw [List.length_drop, ll]; rfl))) (by rw [sizeLine_eq]; omega) (fun i => .bl (meetsD (ds.getD i .none) (ds.getD (i + 1) .none))) (fun _ => true) (fun j σ => ∃ t u : Option V, σ = [t, u]) ⟨none, none, rfl⟩ ?_ ?_
      · rintro j v σ H6 R S hj s6 ⟨p, x, y, rfl, hp, hx, hy⟩ ⟨t, u, rfl⟩ k _
        rw [List.getElem?_drop, show (1 : Int).toNat + j = j + 1 by show 1 + j = j + 1; omega] at hy
        obtain ⟨d, ed, hd⟩ := l.get j x hx
        obtain ⟨d', ed', hd'⟩ := l.get (j + 1) y hy
        have s06 := s05.trans s6
        rw [getD_some ed, getD_some ed'] at k
        have il : ∀ {d : PyData}, sml d = true → rowD d = true → (itemsD d).length ≤ 1000 := fun {d} m r => by
          cases d with
          | list es => exact (sml_len m).1
          | _ => simp [rowD] at r
        have rd := ea' d (List.mem_of_getElem? ed)
        have rd' := ea' d' (List.mem_of_getElem? ed')
        refine unpT_rd hp ?_
        refine br_T ?_
        refine meetsD_rd (hd.same s06) (hd'.same s06) rd rd' (il (dm d (List.mem_of_getElem? ed)) rd) (il (dm d' (List.mem_of_getElem? ed')) rd') (fun H7 s7 => ?_)
        walk_at "wh"
        exact k rfl _ _ s7 ⟨_, _, rfl⟩
      intro acc6 H6 f6 s6 h6
      rw [filter_T] at h6
      have h6 : H6 acc6 = some (.lst (((List.range (ds.length - 1)).map fun i => meetsD (ds.getD i .none) (ds.getD (i + 1) .none)).map V.bl)) := by rw [h6, List.map_map]; rfl
      refine all_rd h6 ?_
      rw [List.all_map]
      exact q _ (s05.trans s6)
    · have q := q _ s1
      rw [decide_eq_false hf] at q
      refine br_T ?_
      walk_at "wh"
      exact q
  all_goals simp [beginsD] at eb
-- @@split
/-! ### the rows of a mix -/
structure RwAt (H : Hp) (p : Addr) (bs : List Addr) (xs : List (Int × Int × Int)) : Prop where
  out : H p = some (.lst (bs.map V.ref))
  len : bs.length = xs.length
  row : ∀ (i : Nat) b x, bs[i]? = some b → xs[i]? = some x → H b = some (.tup [.int x.1, .int x.2.1, .int x.2.2])
theorem RwAt.same {H H' : Hp} {p : Addr} {bs : List Addr} {xs : List (Int × Int × Int)} (R : RwAt H p bs xs) (s : Same H H') : RwAt H' p bs xs := ⟨s _ _ R.out, R.len, fun i b x e1 e2 => s _ _ (R.row i b x e1 e2)⟩
def flw (ms : List (List Int × Int)) (i : Nat) : List ((Int × Int) × Int) := ms.map fun x => (((x.1.drop i).sum, x.1.getD i 0), x.2)
def keyT (z : Int × Int × Int) : Int × Int := (z.1, z.2.1)
def RowIs (ms : List (List Int × Int)) (i : Nat) (xs : List (Int × Int × Int)) : Prop := OrdK (xs.map keyT) ∧ (∀ k, k ∈ xs.map keyT ↔ k ∈ (sumG (flw ms i)).map (·.1)) ∧ ∀ z ∈ xs, valG (sumG (flw ms i)) (keyT z) = some z.2.2
theorem valG_key {κ : Type} [DecidableEq κ] {k : κ} : ∀ {kv : List (κ × Int)}, k ∈ kv.map (·.1) → ∃ n, valG kv k = some n
  | [], h => by cases h
  | z :: kv, h => by
    by_cases e : z.1 = k
    · exact ⟨z.2, valG_pos e⟩
    · rw [valG_neg e]
      rw [List.map_cons] at h
      rcases List.mem_cons.mp h with h | h
      · exact absurd h.symm e
      · exact valG_key h
@[irreducible] def sp_row_of : Sp := fun vs H Q _ => ∃ (m : Addr) (ts : List (Addr × Addr)) (ms : List (List Int × Int)) (i : Nat), vs = [.ref m, .int i] ∧ MixAt H m ts ms ∧ ms.length < 64 ∧ (∀ x ∈ ms, i < x.1.length ∧ x.1.length ≤ 1000) ∧ ∀ r bs xs H', Same H H' → RwAt (nw H H') r bs xs → RowIs ms i xs → xs.length ≤ ms.length → Q (.ref r) H'
theorem row_of_rd {H : Hp} {m : Addr} {ts : List (Addr × Addr)} {ms : List (List Int × Int)} {i : Nat} {Q : VK} {E : XK} (M : MixAt H m ts ms) (hl : ms.length < 64) (hi : ∀ x ∈ ms, i < x.1.length ∧ x.1.length ≤ 1000) (q : ∀ r bs xs H', Same H H' → RwAt (nw H H') r bs xs → RowIs ms i xs → xs.length ≤ ms.length → Q (.ref r) H') : sp_row_of [.ref m, .int i] H Q E := by unfold sp_row_of; exact ⟨m, ts, ms, i, rfl, M, hl, hi, q⟩
set_option maxHeartbeats 0 in
theorem ok_row_of {f : Addr} {fd : FuncData} (F : Fun K "row_of" "row_of" s_row_of f fd) (N : Nm mg) (D_summed : Def P w K mg base CX0 1 "summed" ["pairs"] sp_summed) : FnOk P w K mg base CX0 2 f fd ["mix", "field"] sp_row_of := by
  refine F.ok sc_row_of (fun vs H Q E h => by unfold sp_row_of at h; obtain ⟨_, _, _, _, rfl, _⟩ := h; rfl) (fun cdv A outer s H vs Q E hr h => ?_)
  unfold sp_row_of at h
  obtain ⟨m, ts, ms, i, rfl, M, hl, hi, q⟩ := h
  have hu := hu40 hr
  have ml := M.len
  refine ⟨_, (pss_cons (psS (i := 2) sc_row_of.nd (pD D_summed hr pass0 (pa_cons (peComp (N := ["plan", "weight", "field"]) (ks := [none, none, some 1]) (piSeqK (K := K) rfl (pq 0)) (fun cl C s3 H3 fp => (pgAnyK (K := K) (n := 2) rfl rfl (pgsCons (pg_name (i := 0) nb_10 rfl (by first | exact Or.inl rfl | exact Or.inr rfl)) (pgsCons (pg_name (i := 1) nb_10 rfl (by first | exact Or.inl rfl | exact Or.inr rfl)) pgsNil)))) (fun cl C s3 H3 fp => pts_nil) (fun cl C s3 H3 fp => (peTup (pa_cons (peTup (pa_cons (pB (cSumK (K := K) rfl rfl) N.sum_ bt_sum (pa_cons (pe_slice (slXK (K := K) rfl) (pq 0) (poSome (pq 2)) po_none) pa_nil)) (pa_cons (peIxK (K := K) rfl (pq 0) (pq 2)) pa_nil))) (pa_cons (pq 1) pa_nil)))) (.skip (.skip (.take rfl rfl (by first | exact Or.inl rfl | exact Or.inr rfl) .nil)))) pa_nil)))
      (pss_one (ps_ret (peComp (N := ["left", "sent", "flows"]) (ks := [none, none, some 2]) (piSeqK (K := K) rfl (pB (cSortO rfl) N.sorted_ bt_sorted (pa_cons (pq 2) pa_nil))) (fun cl C s3 H3 fp => (pgAnyK (K := K) (n := 2) rfl rfl (pgsCons (pg_name (i := 0) nb_11 rfl (by first | exact Or.inl rfl | exact Or.inr rfl)) (pgsCons (pg_name (i := 1) nb_11 rfl (by first | exact Or.inl rfl | exact Or.inr rfl)) pgsNil)))) (fun cl C s3 H3 fp => pts_nil) (fun cl C s3 H3 fp => (peTup (pa_cons (pq 0) (pa_cons (pq 1) (pa_cons (peDGet (by exact hu) (pq 2) (peTup (pa_cons (pq 0) (pa_cons (pq 1) pa_nil)))) pa_nil))))) (.skip (.skip (.take rfl rfl (by first | exact Or.inl rfl | exact Or.inr rfl) .nil))))))), ?_⟩
  refine iterL_rd M.out ?_
  refine comp_A (Wk.list (SqL.of M.out)) (by rw [List.length_map, sizeLine_eq]; omega) (fun acc j ys σ I => ∃ (t u : Option V) (qs : List (Addr × Addr)), σ = [t, u, some (.int i)] ∧ ys = (qs.map fun t => V.ref t.1) ∧ qs.length = j ∧ ∀ (k : Nat) q x, qs[k]? = some q → ms[k]? = some x → rm acc I q.1 = some (.tup [.ref q.2, .int x.2]) ∧ rm acc I q.2 = some (.tup (pV ((x.1.drop i).sum, x.1.getD i 0)))) ?_ ?_ ?_ ?_
  · intro acc I f1 s1 h1
    exact ⟨none, none, [], rfl, rfl, rfl, fun k q x e => by simp at e⟩
  · rintro acc j ys σ I I' s' ⟨t, u, qs, r1, r2, r3, r5⟩
    exact ⟨t, u, qs, r1, r2, r3, fun k q x e1 e2 => ⟨Same.rm s' _ _ (r5 k q x e1 e2).1, Same.rm s' _ _ (r5 k q x e1 e2).2⟩⟩
  · rintro acc j v ys σ I R S hj facc s1 hacc hx ⟨t', u', qs, rfl, rfl, ql, qp⟩ kR _
    obtain ⟨t, x, rfl, e1, e2, e3, e4⟩ := (M.same s1).elt hx
    obtain ⟨ix, il⟩ := hi x (List.mem_of_getElem? e2)
    refine unpT_rd e3 ?_
    refine br_T ?_
    refine slL_rd (SqL.of e4) (fun p0 I0 f0 r0 k0 => ?_)
    rw [cut_drop (by walk_at "om"), Int.toNat_natCast, ← List.map_drop] at k0
    refine sum_rd k0 ?_
    refine ixL_rd (v := .int (x.1.getD i 0)) (r0 _ _ e4) (int_at (by walk_at "om") (by rw [Int.toNat_natCast, List.getD_eq_getElem?_getD, List.getElem?_eq_getElem ix]; rfl)) ?_
    refine newT_rd (fun p1 I1 f1 r1 k1 => ?_)
    refine newT_rd (fun p2 I2 f2 r2 k2 => ?_)
    walk_at "wh"
    have n1 : p1 ≠ acc := Ne.symm (ne_of_none (r0 _ _ hacc) f1)
    have n2 : p2 ≠ acc := Ne.symm (ne_of_none ((r0.trans r1) _ _ hacc) f2)
    have r12 := (r0.trans r1).trans r2
    refine kR _ _ _ r12 (fun I3 c3 => ⟨_, _, qs ++ [(p2, p1)], rfl, by rw [List.map_append]; rfl, by rw [List.length_append, ql]; rfl, fun k q y g1 g2 => ?_⟩)
    by_cases hk : k < qs.length
    · rw [List.getElem?_append_left hk] at g1
      have w := qp k q y g1 g2
      have up : Same (rm acc I) (rm acc I3) := (Same.rm r12).trans (Chg.rm c3)
      exact ⟨up _ _ w.1, up _ _ w.2⟩
    · rw [List.getElem?_append_right (by walk_at "om")] at g1
      have k0' : k - qs.length = 0 := by
        have := (List.getElem?_eq_some_iff.mp g1).1
        simp at this; omega
      rw [k0'] at g1
      cases g1
      have : k = j := by walk_at "om"
      subst this
      rw [e2] at g2
      cases g2
      exact ⟨Chg.rm c3 _ _ (rm_at n2 k2), Chg.rm c3 _ _ (rm_at n1 (r2 _ _ k1))⟩
  rintro acc ys σ H1 facc s1 hacc ⟨t', u', qs, rfl, rfl, ql, qp⟩
  rw [List.length_map] at ql
  refine summedP_rd (zs := flw ms i) hacc (by unfold flw; rw [List.length_map]; omega) (by unfold flw; rw [List.length_map]; omega) (fun k t z g1 g2 => ?_) (fun r2 H2 f2 s2 h2 => ?_)
  · unfold flw at g2
    rw [List.getElem?_map] at g2
    obtain ⟨x, ex, rfl⟩ := Option.map_eq_some_iff.mp g2
    exact ⟨rm_same acc H1 _ _ (qp k t x g1 ex).1, rm_same acc H1 _ _ (qp k t x g1 ex).2⟩
  have sl : (sumG (flw ms i)).length ≤ ms.length := by have := sumG_len (flw ms i); unfold flw at this ⊢; rw [List.length_map] at this; exact this
  have h2' : H2 r2 = some (.dT (((sumG (flw ms i)).map fun z => (z.1, V.int z.2)).map fun z => (pK z.1, z.2))) := by rw [h2, List.map_map]; rfl
  refine soO_rd h2' (by rw [List.length_map]; omega) (fun p3 H3 bs ks f3 s3 pm od pr h3 => ?_)
  have pm : ks.Perm ((sumG (flw ms i)).map (·.1)) := by rw [List.map_map] at pm; exact pm
  have bl : bs.length = ks.length := pr.length
  have kl : ks.length ≤ ms.length := by have := pm.length_eq; rw [List.length_map] at this; omega
  have eg : ∀ x ∈ ks, valG (sumG (flw ms i)) x = some ((valG (sumG (flw ms i)) x).getD 0) := fun x hx => by
    obtain ⟨n, e⟩ := valG_key (pm.mem_iff.mp hx)
    rw [e]; rfl
  refine iterL_rd h3 ?_
  refine comp_F (n := (bs.map V.ref).length) (Wk.list (SqL.of h3)) (by rw [List.length_map, sizeLine_eq]; omega) (fun j => .tup [.int (ks.getD j (0, 0)).1, .int (ks.getD j (0, 0)).2, .int ((valG (sumG (flw ms i)) (ks.getD j (0, 0))).getD 0)]) (fun j σ => ∃ t u : Option V, σ = [t, u, some (.ref r2)]) ⟨none, none, rfl⟩ ?_ ?_
  · rintro j v σ H4 R' S' hj s4 hx ⟨t, u, rfl⟩ k
    rw [List.getElem?_map] at hx
    obtain ⟨b, eb, rfl⟩ := Option.map_eq_some_iff.mp hx
    obtain ⟨x, ex⟩ : ∃ x, ks[j]? = some x := ⟨ks[j]'(by have := (List.getElem?_eq_some_iff.mp eb).1; omega), List.getElem?_eq_getElem _⟩
    have eb' := s4 _ _ (paired_at pr j b x eb ex)
    rw [show ks.getD j (0, 0) = x by rw [List.getD_eq_getElem?_getD, ex]; rfl] at k
    have h4 := s4 _ _ (s3 _ _ h2)
    refine unpT_rd eb' ?_
    refine br_T ?_
    refine newT_rd (fun p5 H5 f5 s5 h5 => ?_)
    refine dgT_rd (s5 _ _ h4) (k := pK x) h5 (by rw [valV_dF pK_inj', eg x (List.mem_of_getElem? ex)]; rfl) ?_
    refine newT_rd (fun pa Ha fa sa ha => ?_)
    walk_at "wh"
    exact k _ _ _ (s5.free fa) (s5.trans sa) ha ⟨_, _, rfl⟩
  · intro acc4 ps H4 F4
    rw [List.length_map] at F4
    have F4l := F4.len
    have s03 := (s1.trans s2).trans s3
    walk_at "wh"
    refine q acc4 ps (ks.map fun x => (x.1, x.2, (valG (sumG (flw ms i)) x).getD 0)) H4 (s03.trans F4.same) ⟨nw_at (s03.free F4.facc) F4.out, by rw [List.length_map]; omega, fun j b x e1 e2 => ?_⟩ ?_ (by rw [List.length_map]; exact kl)
    · rw [List.getElem?_map] at e2
      obtain ⟨y, ey, rfl⟩ := Option.map_eq_some_iff.mp e2
      obtain ⟨z1, z2⟩ := F4.row j b e1
      rw [show ks.getD j (0, 0) = y by rw [List.getD_eq_getElem?_getD, ey]; rfl] at z2
      exact nw_at (s03.free z1) z2
    · have em : (ks.map fun x => (x.1, x.2, (valG (sumG (flw ms i)) x).getD 0)).map keyT = ks := by
        rw [List.map_map]
        exact (List.map_congr_left fun x _ => rfl).trans (List.map_id _)
      refine ⟨by rw [em]; exact od, fun k => by rw [em]; exact pm.mem_iff, fun z hz => ?_⟩
      obtain ⟨x, hx, rfl⟩ := List.mem_map.mp hz
      exact eg x hx
-- @@split
/-! ### the stream of a mix -/
def msD (d : PyData) : List (List Int × Int) := (itemsD d).map fun x => (numsD (planOf x), wtD x)
def fieldsD (d : PyData) : Nat := (firstP (itemsD d)).length
def hostsD (d : PyData) : Int := (firstP (itemsD d)).sum
theorem mixAt_of {H : Hp} {v : V} {d : PyData} (h : ShV H v d) (em : mixD d = true) : ∃ (m : Addr) (ts : List (Addr × Addr)), v = .ref m ∧ MixAt H m ts (msD d) ∧ 1 ≤ (msD d).length ∧ (0 ≤ hostsD d ∧ hostsD d ≤ 40) ∧ (1 ≤ fieldsD d ∧ fieldsD d ≤ 8) ∧ ∀ x ∈ msD d, (∀ n ∈ x.1, 0 ≤ n) ∧ x.1.length = fieldsD d ∧ x.1.sum = hostsD d ∧ 1 ≤ x.2 := by
  obtain ⟨a, xs, ds, rfl, rfl, e, l, h0, hp⟩ := mix_of h em
  rw [mixD_list, Bool.and_eq_true, Bool.and_eq_true, Bool.and_eq_true] at em
  obtain ⟨⟨⟨_, _⟩, sz⟩, pl⟩ := em
  unfold sizeD at sz
  rw [Bool.and_eq_true, decide_eq_true_eq, decide_eq_true_eq] at sz
  have pl := List.all_eq_true.mp pl
  have key : ∀ {xs : List V} {ds : List PyData}, ShL H xs ds → (∀ d ∈ ds, partD d = true) → ∃ ts : List (Addr × Addr), xs = (ts.map fun t => V.ref t.1) ∧ ts.length = ds.length ∧ ∀ (i : Nat) t x, ts[i]? = some t → (ds.map fun x => (numsD (planOf x), wtD x))[i]? = some x → H t.1 = some (.tup [.ref t.2, .int x.2]) ∧ H t.2 = some (.lst (x.1.map V.int)) := fun {xs ds} l hp => by
    induction ds generalizing xs with
    | nil => cases l; exact ⟨[], rfl, rfl, fun i t x h => by simp at h⟩
    | cons d ds ih =>
      cases l with
      | cons h1 l =>
        obtain ⟨ts, rfl, tl, k1⟩ := ih l fun d hd => hp d (.tail _ hd)
        obtain ⟨t, p, w, ns, rfl, ht, hp', rfl, nn, hw⟩ := part_of h1 (hp _ (.head _))
        refine ⟨(t, p) :: ts, rfl, by rw [List.length_cons, List.length_cons, tl], fun n t' x g1 g2 => ?_⟩
        match n with
        | 0 =>
          cases g1
          rw [List.map_cons, List.getElem?_cons_zero, numsD_plan] at g2
          cases g2
          exact ⟨ht, hp'⟩
        | n + 1 => exact k1 n t' x g1 g2
  obtain ⟨ts, rfl, tl, k1⟩ := key l hp
  refine ⟨a, ts, rfl, ⟨e, by unfold msD; rw [List.length_map]; exact tl, k1⟩, by unfold msD; rw [List.length_map]; show 1 ≤ ds.length; omega, sz.1, ⟨by have := sz.2.1; show 1 ≤ (firstP ds).length; omega, by have := sz.2.2; show (firstP ds).length ≤ 8; omega⟩, fun x hx => ?_⟩
  unfold msD at hx
  obtain ⟨d, hd, rfl⟩ := List.mem_map.mp hx
  obtain ⟨ns, w, rfl, nn, hw⟩ := partD_shape (hp d hd)
  have p := pl _ hd
  unfold planD at p
  rw [Bool.and_eq_true, Bool.and_eq_true, decide_eq_true_eq, decide_eq_true_eq] at p
  rw [numsD_plan] at p ⊢
  exact ⟨nn, by have := p.1.2; show ns.length = (firstP ds).length; omega, p.2, hw⟩
structure StAt (H : Hp) (p : Addr) (rs : List (Addr × List Addr)) (xss : List (List (Int × Int × Int))) : Prop where
  out : H p = some (.lst (rs.map fun r => V.ref r.1))
  len : rs.length = xss.length
  row : ∀ (i : Nat) r xs, rs[i]? = some r → xss[i]? = some xs → RwAt (rm p H) r.1 r.2 xs
  nd : (rs.map (·.1)).Nodup
theorem StAt.same {H H' : Hp} {p : Addr} {rs : List (Addr × List Addr)} {xss : List (List (Int × Int × Int))} (R : StAt H p rs xss) (s : Same H H') : StAt H' p rs xss := ⟨s _ _ R.out, R.len, fun i r xs e1 e2 => (R.row i r xs e1 e2).same (Same.rm s), R.nd⟩
def StmIs (ms : List (List Int × Int)) (f : Nat) (xss : List (List (Int × Int × Int))) : Prop := xss.length = f ∧ ∀ (i : Nat) xs, xss[i]? = some xs → RowIs ms i xs ∧ xs.length ≤ ms.length
@[irreducible] def sp_stream_of (a_NoMix : Addr) : Sp := fun vs H Q E => ∃ (v : V) (d : PyData), vs = [v] ∧ ShV H v d ∧ sml d = true ∧ (mixD d = true → (itemsD d).length < 64 ∧ ∀ r rs xss H', Same H H' → StAt (nw H H') r rs xss → StmIs (msD d) (fieldsD d) xss → Q (.ref r) H') ∧ (mixD d = false → ∀ H', Same H H' → E (.ref a_NoMix) none H')
theorem stream_of_rd {a_NoMix : Addr} {H : Hp} {v : V} {d : PyData} {Q : VK} {E : XK} (h : ShV H v d) (hs : sml d = true) (q : mixD d = true → (itemsD d).length < 64 ∧ ∀ r rs xss H', Same H H' → StAt (nw H H') r rs xss → StmIs (msD d) (fieldsD d) xss → Q (.ref r) H') (qe : mixD d = false → ∀ H', Same H H' → E (.ref a_NoMix) none H') : sp_stream_of a_NoMix [v] H Q E := by unfold sp_stream_of; exact ⟨v, d, rfl, h, hs, q, qe⟩
theorem getElem?_snoc {α : Type} {as : List α} {a b : α} {i : Nat} (h : (as ++ [a])[i]? = some b) : (i < as.length ∧ as[i]? = some b) ∨ (i = as.length ∧ b = a) := by
  by_cases hi : i < as.length
  · rw [List.getElem?_append_left hi] at h
    exact .inl ⟨hi, h⟩
  · rw [List.getElem?_append_right (by walk_at "om")] at h
    have : i - as.length = 0 := by
      have := (List.getElem?_eq_some_iff.mp h).1
      simp at this; omega
    rw [this] at h
    cases h
    exact .inr ⟨by walk_at "om", rfl⟩
theorem rows_nd {H1 I I1 : Hp} {acc r : Addr} {rs : List (Addr × List Addr)} {xss : List (List (Int × Int × Int))} {bs : List Addr} (nd : (rs.map (·.1)).Nodup) (hl : rs.length = xss.length) (rp : ∀ (i : Nat) r xs, rs[i]? = some r → xss[i]? = some xs → RwAt (rm acc (nw H1 I)) r.1 r.2 xs) (hr : I r = none) : ((rs ++ [(r, bs)]).map (·.1)).Nodup := by
  rw [List.map_append, List.nodup_append]
  refine ⟨nd, by simp, fun a ha b hb => ?_⟩
  obtain ⟨r', hr', rfl⟩ := List.mem_map.mp ha
  obtain ⟨i, ei⟩ := List.getElem?_of_mem hr'
  obtain ⟨xs, ex⟩ : ∃ xs, xss[i]? = some xs := ⟨_, List.getElem?_eq_getElem (by have := (List.getElem?_eq_some_iff.mp ei).1; omega)⟩
  have o := nw_same _ _ _ _ (rm_same _ _ _ _ (rp i r' xs ei ex).out)
  rw [show b = r by simpa using hb]
  exact ne_of_none o hr
theorem ok_stream_of {f : Addr} {fd : FuncData} (F : Fun K "stream_of" "stream_of" s_stream_of f fd) (N : Nm mg) (D_look_mix : Def P w K mg base (CXR P w) 6 "look_mix" ["mix"] (sp_look_mix a_NoMix)) (D_row_of : Def P w K mg base CX0 2 "row_of" ["mix", "field"] sp_row_of) : FnOk P w K mg base (CXR P w) 7 f fd ["mix"] (sp_stream_of a_NoMix) := by
  refine F.okR sc_stream_of (fun vs H Q E h => by unfold sp_stream_of at h; obtain ⟨_, _, rfl, _⟩ := h; rfl) (fun cdv A outer s H vs Q E hr hX h => ?_)
  unfold sp_stream_of at h
  obtain ⟨v, d, rfl, h, hs, q, qe⟩ := h
  refine ⟨_, (pss_cons (ps_expr (pD D_look_mix hr (passR hX) (pa_cons (pq 0) pa_nil)))
      (pss_one (ps_ret (peComp (N := ["field", "mix"]) (ks := [none, some 0]) (piRng1 N.range_ (pa_cons (pB (cLenK (K := K) rfl) N.len_ bt_len (pa_cons (peIxK (K := K) rfl (peIxK (K := K) rfl (pq 0) pe_int) pe_int) pa_nil)) pa_nil)) (fun cl C s3 H3 fp => (pg_name (i := 0) nb_12 rfl (by first | exact Or.inl rfl | exact Or.inr rfl))) (fun cl C s3 H3 fp => pts_nil) (fun cl C s3 H3 fp => (pD D_row_of hr pass0 (pa_cons (pq 1) (pa_cons (pq 0) pa_nil)))) (.skip (.take rfl rfl (by first | exact Or.inl rfl | exact Or.inr rfl) .nil)))))), ?_⟩
  refine look_mixD_rd h hs (fun em H1 s1 => ?_) (fun em H1 s1 => ?_)
  · obtain ⟨q1, q⟩ := q em
    obtain ⟨m, ts, rfl, M, m1, hh, hf, ok⟩ := mixAt_of (h.same s1) em
    have ml : (msD d).length < 64 := by unfold msD; rw [List.length_map]; exact q1
    obtain ⟨x0, ex0⟩ : ∃ x, (msD d)[0]? = some x := ⟨_, List.getElem?_eq_getElem (by walk_at "om")⟩
    obtain ⟨t0, et0, at0, ht0, hp0⟩ := M.ix ex0
    have l0 := (ok x0 (List.mem_of_getElem? ex0)).2.1
    refine ixL_rd (v := .ref t0.1) M.out at0 ?_
    refine ixT_rd (v := .ref t0.2) ht0 rfl ?_
    refine lenL_rd hp0 ?_
    rw [List.length_map, l0]
    refine range_rd (by walk_at "om") (by walk_at "om") (by walk_at "om") (by walk_at "om") ?_
    refine comp_A (n := fieldsD d) Wk.range (by rw [sizeLine_eq]; omega) (fun acc j ys σ I => ∃ (t : Option V) (rs : List (Addr × List Addr)) (xss : List (List (Int × Int × Int))), σ = [t, some (.ref m)] ∧ ys = (rs.map fun r => V.ref r.1) ∧ rs.length = j ∧ xss.length = j ∧ (∀ (i : Nat) r xs, rs[i]? = some r → xss[i]? = some xs → RwAt (rm acc (nw H1 I)) r.1 r.2 xs) ∧ (∀ (i : Nat) xs, xss[i]? = some xs → RowIs (msD d) i xs ∧ xs.length ≤ (msD d).length) ∧ (rs.map (·.1)).Nodup) ?_ ?_ ?_ ?_
    · intro acc I f1 s2 h1
      exact ⟨none, [], [], rfl, rfl, rfl, rfl, fun i r xs e => by simp at e, fun i xs e => by simp at e, List.nodup_nil⟩
    · rintro acc j ys σ I I' s' ⟨t, rs, xss, r1, r2, r3, r4, r5, r6, r7⟩
      exact ⟨t, rs, xss, r1, r2, r3, r4, fun i r xs e1 e2 => (r5 i r xs e1 e2).same (Same.rm (nw_up s')), r6, r7⟩
    · rintro acc j v ys σ I R S hj facc s2 hacc hx ⟨t, rs, xss, rfl, rfl, rl, xl, rp, xp, nd⟩ kR _
      obtain rfl : v = .int j := by rw [hx, Int.zero_add]
      refine br_T ?_
      refine row_of_rd (M.same s2) ml (fun x hx => by have := (ok x hx).2.1; omega) (fun r bs xs I1 s3 R1 ri xl1 => ?_)
      walk_at "wh"
      refine kR _ _ _ s3 (fun I2 c2 => ⟨_, rs ++ [(r, bs)], xss ++ [xs], rfl, by rw [List.map_append]; rfl, by rw [List.length_append, rl]; rfl, by rw [List.length_append, xl]; rfl, fun i r' xs' e1 e2 => ?_, fun i xs' e => ?_, rows_nd (I1 := I1) nd (by walk_at "om") rp (nw_of R1.out).1⟩)
      · have up : Same (rm acc (nw H1 I)) (rm acc (nw H1 I2)) := fun b o z => by
          obtain ⟨z1, z2⟩ := rm_of z
          obtain ⟨z3, z4⟩ := nw_of z2
          exact rm_at z1 (nw_at z3 (c2 _ _ z1 (s3 _ _ z4)))
        have new : Same (nw I I1) (rm acc (nw H1 I2)) := fun b o z => by
          obtain ⟨z3, z4⟩ := nw_of z
          have nb : b ≠ acc := fun w => by rw [w, hacc] at z3; cases z3
          exact rm_at nb (nw_at (s2.free z3) (c2 _ _ nb z4))
        rcases getElem?_snoc e1 with ⟨a1, a2⟩ | ⟨a1, rfl⟩
        · rcases getElem?_snoc e2 with ⟨b1, b2⟩ | ⟨b1, _⟩
          · exact (rp i r' xs' a2 b2).same up
          · omega
        · rcases getElem?_snoc e2 with ⟨b1, _⟩ | ⟨b1, rfl⟩
          · omega
          · exact R1.same new
      · rcases getElem?_snoc e with ⟨b1, b2⟩ | ⟨b1, rfl⟩
        · exact xp i xs' b2
        · rw [b1, xl]
          exact ⟨ri, xl1⟩
    · rintro acc ys σ I facc s2 hacc ⟨t, rs, xss, rfl, rfl, rl, xl, rp, xp, nd⟩
      walk_at "wh"
      have left : Same (nw H1 I) (nw H I) := nw_left s1
      exact q acc rs xss I (s1.trans s2) ⟨left _ _ (nw_at facc hacc), by walk_at "om", fun i r xs e1 e2 => (rp i r xs e1 e2).same (Same.rm left), nd⟩ ⟨xl, xp⟩
  · exact qe em _ s1
-- @@split
/-! ### a copy all the way down, of things of any kind -/
theorem shl_app {H : Hp} : ∀ {xs : List V} {ds : List PyData} {ys : List V} {es : List PyData}, ShL H xs ds → ShL H ys es → ShL H (xs ++ ys) (ds ++ es)
  | _, _, _, _, .nil, b => b
  | _, _, _, _, .cons h a, b => .cons h (shl_app a b)
theorem depth_mem {d : PyData} : ∀ {ds : List PyData}, d ∈ ds → d.depth ≤ PyData.depthAll ds
  | [], h => by cases h
  | e :: ds, h => by
    rw [show PyData.depthAll (e :: ds) = max e.depth (PyData.depthAll ds) from rfl]
    rcases List.mem_cons.mp h with rfl | h
    · exact Nat.le_max_left _ _
    · exact Nat.le_trans (depth_mem h) (Nat.le_max_right _ _)
def sp_deepD : Nat → Sp
  | 0 => fun _ _ _ _ => False
  | n + 1 => fun vs H Q _ => ∃ (v : V) (d : PyData), vs = [v] ∧ ShV H v d ∧ sml d = true ∧ d.depth ≤ n ∧ ∀ v' H', Same H H' → ShV (nw H H') v' d → Q v' H'
@[irreducible] def sp__law_deep : Sp := sp_deepD 9
theorem deepD_rd {H : Hp} {v : V} {d : PyData} {Q : VK} {E : XK} (h : ShV H v d) (hs : sml d = true) (hd : d.depth ≤ 8) (q : ∀ v' H', Same H H' → ShV (nw H H') v' d → Q v' H') : sp__law_deep [v] H Q E := by unfold sp__law_deep; exact ⟨v, d, rfl, h, hs, hd, q⟩
set_option maxHeartbeats 0 in
theorem ok__law_deep {f : Addr} {fd : FuncData} (F : Fun K "_law_deep" "_law_deep" s__law_deep f fd) (N : Nm mg) (hgR : mg "_law_deep" = some (.ref f)) (hkR : PySem.W.keepIn K (.ref f) = true) (hbR : Binds K fd ["_law_thing"] []) : FnOk P w K mg base CX0 10 f fd ["_law_thing"] sp__law_deep := by
  have key : ∀ n, FnOk P w K mg base CX0 (n + 1) f fd ["_law_thing"] (sp_deepD n) := by
    intro n
    induction n with
    | zero => exact F.ok sc__law_deep (fun vs H Q E h => h.elim) (fun cdv A outer s H vs Q E hr h => h.elim)
    | succ n ih =>
      have D__law_deep : Def P w K mg base CX0 (n + 1) "_law_deep" ["_law_thing"] (sp_deepD n) := ⟨f, fd, ih, hgR, hkR, hbR⟩
      refine F.ok sc__law_deep (fun vs H Q E h => by obtain ⟨_, _, rfl, _⟩ := h; rfl) (fun cdv A outer s H vs Q E hr h => ?_)
      refine ⟨_, (pss_cons (psIf (ptV (pB (cIsiK (K := K) rfl) N.isinstance_ bt_isinstance (pa_cons (pq 0) (pa_cons (pTy N.list_ bt_list) pa_nil)))) (pss_one (ps_ret (peComp (N := ["_law_part"]) (ks := [none]) (piSeqK (K := K) rfl (pq 0)) (fun cl C s3 H3 fp => (pg_name (i := 0) nb_16 rfl (by first | exact Or.inl rfl | exact Or.inr rfl))) (fun cl C s3 H3 fp => pts_nil) (fun cl C s3 H3 fp => (pD D__law_deep hr pass0 (pa_cons (pq 0) pa_nil) (hk := by walk_at "om"))) (.skip .nil)))) pss_nil)
      (pss_cons (psIf (ptV (pB (cIsiK (K := K) rfl) N.isinstance_ bt_isinstance (pa_cons (pq 0) (pa_cons (pTy N.tuple_ bt_tuple) pa_nil)))) (pss_one (ps_ret (pT (cTupK (K := K) rfl) N.tuple_ bt_tuple (pa_cons (peComp (N := ["_law_part"]) (ks := [none]) (piSeqK (K := K) rfl (pq 0)) (fun cl C s3 H3 fp => (pg_name (i := 0) nb_16 rfl (by first | exact Or.inl rfl | exact Or.inr rfl))) (fun cl C s3 H3 fp => pts_nil) (fun cl C s3 H3 fp => (pD D__law_deep hr pass0 (pa_cons (pq 0) pa_nil) (hk := by walk_at "om"))) (.skip .nil)) pa_nil)))) pss_nil)
      (pss_one (ps_ret (pq 0))))), ?_⟩
      obtain ⟨v, d, rfl, hv, hs, hd, q⟩ := h
      have inside : ∀ {acc : Addr} {I I1 I2 : Hp} {ys : List V}, Same H I → I acc = some (.lst ys) → Same I I1 → Chg acc I1 I2 → Same (rm acc (nw H I)) (rm acc (nw H I2)) ∧ Same (nw I I1) (rm acc (nw H I2)) := fun {acc I I1 I2 ys} s2 hacc s3 c2 =>
        ⟨fun b o z => by
          obtain ⟨z1, z2⟩ := rm_of z
          obtain ⟨z3, z4⟩ := nw_of z2
          exact rm_at z1 (nw_at z3 (c2 _ _ z1 (s3 _ _ z4))),
        fun b o z => by
          obtain ⟨z3, z4⟩ := nw_of z
          have nb : b ≠ acc := fun w => by rw [w, hacc] at z3; cases z3
          exact rm_at nb (nw_at (s2.free z3) (c2 _ _ nb z4))⟩
      refine isiD_rd' hv (.inr (.inr (.inl rfl))) ?_
      cases hv
      case lst a xs ds e l =>
        have ll := l.len
        obtain ⟨dl, dm⟩ := sml_len hs
        have hd : PyData.depthAll ds + 1 ≤ n := hd
        obtain ⟨n', rfl⟩ : ∃ n', n = n' + 1 := ⟨n - 1, by walk_at "om"⟩
        refine br_T ?_
        refine iterL_rd e ?_
        refine comp_A (Wk.list (SqL.of e)) (by rw [sizeLine_eq]; omega) (fun acc j ys σ I => ∃ t : Option V, σ = [t] ∧ ShL (rm acc (nw H I)) ys (ds.take j)) ?_ ?_ ?_ ?_
        · intro acc I f1 s2 h1
          exact ⟨none, rfl, .nil⟩
        · rintro acc j ys σ I I' s' ⟨t, r1, r2⟩
          exact ⟨t, r1, r2.same (Same.rm (nw_up s'))⟩
        · rintro acc j x ys σ I R S hj facc s1 hacc hx ⟨t, rfl, L⟩ kR _
          obtain ⟨d, ed, hd'⟩ := l.get j x hx
          refine br_T ?_
          walk_at "wh"
          refine ⟨x, d, rfl, hd'.same s1, dm d (List.mem_of_getElem? ed), by have := depth_mem (List.mem_of_getElem? ed); omega, fun v' I1 s2 S1 => ?_⟩
          walk_at "wh"
          refine kR _ _ _ s2 (fun I2 c2 => ⟨_, rfl, ?_⟩)
          obtain ⟨u1, u2⟩ := inside s1 hacc s2 c2
          rw [List.take_succ, ed]
          exact shl_app (L.same u1) (.cons (S1.same u2) .nil)
        · rintro acc ys σ I facc s1 hacc ⟨t, rfl, L⟩
          rw [ll, List.take_length] at L
          walk_at "wh"
          exact q _ _ s1 (.lst (nw_at facc hacc) (L.same (rm_same _ _)))
      case tup a xs ds e l =>
        have ll := l.len
        obtain ⟨dl, dm⟩ := smlT_len hs
        have hd : PyData.depthAll ds + 1 ≤ n := hd
        obtain ⟨n', rfl⟩ : ∃ n', n = n' + 1 := ⟨n - 1, by walk_at "om"⟩
        refine br_F ?_
        refine isiD_rd' (.tup e l) (.inr (.inr (.inr rfl))) ?_
        refine br_T ?_
        refine iterT_rd e ?_
        refine comp_A (Wk.tup e) (by rw [sizeLine_eq]; omega) (fun acc j ys σ I => ∃ t : Option V, σ = [t] ∧ ShL (rm acc (nw H I)) ys (ds.take j)) ?_ ?_ ?_ ?_
        · intro acc I f1 s2 h1
          exact ⟨none, rfl, .nil⟩
        · rintro acc j ys σ I I' s' ⟨t, r1, r2⟩
          exact ⟨t, r1, r2.same (Same.rm (nw_up s'))⟩
        · rintro acc j x ys σ I R S hj facc s1 hacc hx ⟨t, rfl, L⟩ kR _
          obtain ⟨d, ed, hd'⟩ := l.get j x hx
          refine br_T ?_
          walk_at "wh"
          refine ⟨x, d, rfl, hd'.same s1, dm d (List.mem_of_getElem? ed), by have := depth_mem (List.mem_of_getElem? ed); omega, fun v' I1 s2 S1 => ?_⟩
          walk_at "wh"
          refine kR _ _ _ s2 (fun I2 c2 => ⟨_, rfl, ?_⟩)
          obtain ⟨u1, u2⟩ := inside s1 hacc s2 c2
          rw [List.take_succ, ed]
          exact shl_app (L.same u1) (.cons (S1.same u2) .nil)
        · rintro acc ys σ I facc s1 hacc ⟨t, rfl, L⟩
          rw [ll, List.take_length] at L
          refine tupL_rd (SqL.of hacc) (fun p2 I2 f2 s2 h2 => ?_)
          walk_at "wh"
          exact q _ _ (s1.trans s2) (.tup (nw_at (s1.free f2) h2) ((L.same (rm_same _ _)).same (nw_up s2)))
      all_goals
        refine br_F ?_
        walk_at "wh"
        first
          | refine isiN_rd ?_ (by rfl)
          | refine isiB_rd ?_ (by rfl)
          | refine isiI_rd ?_ (by rfl)
          | refine isiS_rd ?_ (by rfl)
        refine br_F ?_
        walk_at "wh"
        exact q _ _ (Same.refl _) (by constructor)
  unfold sp__law_deep
  exact key 9
-- @@split
/-- a list that is drawn from: its number, its kind, how often -/
def LeftAt (H : Hp) (a : Addr) (b : Int) : Prop := ∃ x y z : Int, H a = some (.lst [.int x, .int y, .int z]) ∧ (y = 1 ∨ (y = 0 ∧ 0 ≤ x ∧ x < 2147483629)) ∧ 0 ≤ z ∧ z ≤ b
theorem LeftAt.same {H H' : Hp} {a : Addr} {b : Int} (h : LeftAt H a b) (s : Same H H') : LeftAt H' a b := by
  obtain ⟨x, y, z, e, r⟩ := h
  exact ⟨x, y, z, s _ _ e, r⟩
local macro_rules | `(tactic| walk_at "la") => `(tactic| first | assumption | (refine LeftAt.same (H := ?H) ?l ?s; (case s => assumption); (case l => walk_at "la")) | fail "la")
theorem LeftAt.up {H : Hp} {a : Addr} {b c : Int} (h : LeftAt H a b) (l : b ≤ c) : LeftAt H a c := by
  obtain ⟨x, y, z, e1, e2, e3, e4⟩ := h
  exact ⟨x, y, z, e1, e2, e3, by walk_at "om"⟩
theorem LeftAt.ne {H : Hp} {a p : Addr} {b : Int} (h : LeftAt H a b) (f : H p = none) : p ≠ a := by
  obtain ⟨x, y, z, e, _⟩ := h
  exact Ne.symm (ne_of_none e f)
local macro_rules | `(tactic| walk_at "ne") => `(tactic| first | assumption | (apply Ne.symm; assumption) | (refine LeftAt.ne (H := ?H) (b := ?b) ?l ?f; (case f => assumption); (case l => walk_at "la")) | fail "ne")
@[irreducible] def sp__law_mix : Sp := fun vs H Q _ => ∃ n k : Int, vs = [.int n, .int k] ∧ 0 ≤ n ∧ n < 2147483629 ∧ 0 ≤ k ∧ k ≤ 10000000 ∧ ∀ r : Int, 0 ≤ r → r < 2147483587 → Q (.int r) H
theorem mixed_rd {H : Hp} {n k : Int} {Q : VK} {E : XK} (h0 : 0 ≤ n) (h1 : n < 2147483629) (h2 : 0 ≤ k) (h3 : k ≤ 10000000) (q : ∀ r : Int, 0 ≤ r → r < 2147483587 → Q (.int r) H) : sp__law_mix [.int n, .int k] H Q E := by
  unfold sp__law_mix; exact ⟨n, k, rfl, h0, h1, h2, h3, q⟩
theorem ok__law_mix {f : Addr} {fd : FuncData} (F : Fun K "_law_mix" "_law_mix" s__law_mix f fd) (N : Nm mg) : FnOk P w K mg base CX0 1 f fd ["_law_number", "_law_k"] sp__law_mix := by
  refine F.ok sc__law_mix (fun vs H Q E h => by unfold sp__law_mix at h; obtain ⟨n, k, rfl, _⟩ := h; rfl) (fun cdv A outer s H vs Q E hr h => ?_)
  unfold sp__law_mix at h
  obtain ⟨n, k, rfl, h1, h2, h3, h4, q⟩ := h
  refine ⟨_, (pss_cons (psS (i := 2) sc__law_mix.nd (pe_op oMod (pe_op oMul (pe_op oAdd (pe_op oAdd (pe_op oMul (pq 0) (pq 0)) (pe_op oMul (pq 1) (pq 0))) (pe_op oMul (pe_op oMul pe_int (pq 1)) (pq 1))) pe_int) pe_int))
      (pss_one (ps_ret (pe_op oMod (pe_op oMul (pq 2) (pq 2)) pe_int)))), ?_⟩
  repeat walk_at "st"
  walk_at "wh"
  exact q _ (by assumption) (by assumption)
@[irreducible] def sp__law_cell_at : Sp := fun vs H Q _ => ∃ (a : Addr) (z : Int), vs = [.ref a, .int 0] ∧ H a = some (.lst [.int z]) ∧ Q (.int z) H
theorem cell_at_rd {H : Hp} {a : Addr} {z : Int} {Q : VK} {E : XK} (h : H a = some (.lst [.int z])) (q : Q (.int z) H) : sp__law_cell_at [.ref a, .int 0] H Q E := by unfold sp__law_cell_at; exact ⟨a, z, rfl, h, q⟩
theorem ok__law_cell_at {f : Addr} {fd : FuncData} (F : Fun K "_law_cell_at" "_law_cell_at" s__law_cell_at f fd) (N : Nm mg) : FnOk P w K mg base CX0 1 f fd ["_law_script", "_law_k"] sp__law_cell_at := by
  refine F.ok sc__law_cell_at (fun vs H Q E h => by unfold sp__law_cell_at at h; obtain ⟨_, _, rfl, _⟩ := h; rfl) (fun cdv A outer s H vs Q E hr h => ?_)
  unfold sp__law_cell_at at h
  obtain ⟨a, z, rfl, h, q⟩ := h
  have hu := hu40 hr
  refine ⟨_, (pss_cons (psIf (ptC (oLtX (by exact hu)) (pq 1) (pB (cLenK (K := K) rfl) N.len_ bt_len (pa_cons (pq 0) pa_nil))) (pss_one (ps_ret (peIxK (K := K) rfl (pq 0) (pq 1)))) pss_nil)
      (pss_one (ps_ret pe_int))), ?_⟩
  refine lenL_rd h ?_
  refine br_dT (by show (0 : Int) < ((1 : Nat) : Int); decide) ?_
  refine ixL_rd (v := .int z) h rfl ?_
  walk_at "wh"
  exact q
@[irreducible] def sp__law_left : Sp := fun vs H Q _ => ∃ (a : Addr) (z : Int), vs = [.ref a, .int 0] ∧ H a = some (.lst [.int z]) ∧ ∀ p H', H p = none → Same H H' → LeftAt H' p 0 → Q (.ref p) H'
theorem left_rd {H : Hp} {a : Addr} {z : Int} {Q : VK} {E : XK} (h : H a = some (.lst [.int z])) (q : ∀ p H', H p = none → Same H H' → LeftAt H' p 0 → Q (.ref p) H') : sp__law_left [.ref a, .int 0] H Q E := by unfold sp__law_left; exact ⟨a, z, rfl, h, q⟩
theorem ok__law_left {f : Addr} {fd : FuncData} (F : Fun K "_law_left" "_law_left" s__law_left f fd) (N : Nm mg) (D__law_cell_at : Def P w K mg base CX0 1 "_law_cell_at" ["_law_script", "_law_k"] sp__law_cell_at) : FnOk P w K mg base CX0 2 f fd ["_law_script", "_law_k"] sp__law_left := by
  refine F.ok sc__law_left (fun vs H Q E h => by unfold sp__law_left at h; obtain ⟨_, _, rfl, _⟩ := h; rfl) (fun cdv A outer s H vs Q E hr h => ?_)
  unfold sp__law_left at h
  obtain ⟨a, z, rfl, h, q⟩ := h
  have hu := hu40 hr
  refine ⟨_, (pss_cons (psS (i := 2) sc__law_left.nd (pD D__law_cell_at hr pass0 (pa_cons (pq 0) (pa_cons (pq 1) pa_nil))))
      (pss_cons (psIf (ptC (oLtX (by exact hu)) (pq 2) (pe_op oPow pe_int pe_int)) (pss_one (ps_ret (peLst (pa_cons (pe_op oMod (pq 2) pe_int) (pa_cons pe_int (pa_cons pe_int pa_nil)))))) pss_nil)
      (pss_one (ps_ret (peLst (pa_cons (pe_op oSub (pq 2) (pe_op oPow pe_int pe_int)) (pa_cons pe_int (pa_cons pe_int pa_nil)))))))), ?_⟩
  refine cell_at_rd h ?_
  walk_at "st"
  refine br_dec (fun h => ?_) (fun h => ?_)
  · repeat walk_at "st"
    walk_at "wh"
    exact q _ _ (by assumption) (by assumption) ⟨_, _, _, by assumption, .inr ⟨rfl, by assumption, by assumption⟩, by walk_at "om", by walk_at "om"⟩
  · repeat walk_at "st"
    walk_at "wh"
    exact q _ _ (by assumption) (by assumption) ⟨_, _, _, by assumption, .inl rfl, by walk_at "om", by walk_at "om"⟩
@[irreducible] def sp__law_draw : Sp := fun vs H Q _ => ∃ (a : Addr) (m b : Int), vs = [.ref a, .int m] ∧ LeftAt H a b ∧ b ≤ 1000000 ∧ 0 < m ∧ m < 10 ^ 60 ∧ ∀ (d : Int) H', 0 ≤ d → d < m → Chg a H H' → LeftAt H' a (b + 1) → Q (.int d) H'
theorem draw_rd {H : Hp} {a : Addr} {m b : Int} {Q : VK} {E : XK} (hL : LeftAt H a b) (hb : b ≤ 1000000) (h0 : 0 < m) (h1 : m < 10 ^ 60) (q : ∀ (d : Int) H', 0 ≤ d → d < m → Chg a H H' → LeftAt H' a (b + 1) → Q (.int d) H') : sp__law_draw [.ref a, .int m] H Q E := by
  unfold sp__law_draw; exact ⟨a, m, b, rfl, hL, hb, h0, h1, q⟩
theorem ok__law_draw {f : Addr} {fd : FuncData} (F : Fun K "_law_draw" "_law_draw" s__law_draw f fd) (N : Nm mg) (D__law_mix : Def P w K mg base CX0 1 "_law_mix" ["_law_number", "_law_k"] sp__law_mix) : FnOk P w K mg base CX0 2 f fd ["_law_left_here", "_law_base"] sp__law_draw := by
  refine F.ok sc__law_draw (fun vs H Q E h => by unfold sp__law_draw at h; obtain ⟨a, m, b, rfl, _⟩ := h; rfl) (fun cdv A outer s H vs Q E hr h => ?_)
  unfold sp__law_draw at h
  obtain ⟨a, m, b, rfl, ⟨x, y, z, hl, hy, hz0, hz1⟩, hb, hm0, hm1, q⟩ := h
  have hu := hu40 hr
  refine ⟨_, (pss_cons (ps_asg (pe_op oAdd (peIxK (K := K) rfl (pq 0) pe_int) pe_int) (pg_sub (pq 0) pe_int setM))
      (pss_cons (psIf (ptC (oEqXK (K := K) rfl (by exact hu)) (peIxK (K := K) rfl (pq 0) pe_int) pe_int) (pss_cons (psS (i := 2) sc__law_draw.nd (pD D__law_mix hr pass0 (pa_cons (peIxK (K := K) rfl (pq 0) pe_int) (pa_cons (peIxK (K := K) rfl (pq 0) pe_int) pa_nil))))
      (pss_cons (psIf (ptC oGt (pq 1) (pe_op oPow pe_int pe_int)) (pss_one (ps_ret (pe_op oMod (pe_op oMul (pq 2) (pe_op oAdd (pe_op oPow (pD D__law_mix hr pass0 (pa_cons (peIxK (K := K) rfl (pq 0) pe_int) (pa_cons (pe_op oAdd (peIxK (K := K) rfl (pq 0) pe_int) pe_int) pa_nil))) pe_int) pe_int)) (pq 1)))) pss_nil)
      (pss_one (ps_ret (pe_op oMod (pe_op oMod (pe_op oMul (pq 2) (pe_op oAdd (pq 2) pe_int)) pe_int) (pq 1)))))) pss_nil)
      (pss_cons (psS (i := 3) sc__law_draw.nd (pe_op oMod (peIxK (K := K) rfl (pq 0) pe_int) (pq 1)))
      (pss_cons (ps_asg (pe_op oDiv (peIxK (K := K) rfl (pq 0) pe_int) (pq 1)) (pg_sub (pq 0) pe_int setM))
      (pss_one (ps_ret (pq 3))))))), ?_⟩
  walk_at "st"
  refine set_rd hl (by rfl) (fun H1 c1 h1 => ?_)
  have h1 : H1 a = some (.lst [.int x, .int y, .int (z + 1)]) := h1
  refine ixL_rd (v := .int y) h1 rfl ?_
  refine br_dec (fun h => ?_) (fun h => ?_)
  · obtain ⟨hx0, hx1⟩ : 0 ≤ x ∧ x < 2147483629 := by walk_at "om"
    subst h
    refine ixL_rd (v := .int x) h1 rfl ?_
    refine ixL_rd (v := .int (z + 1)) h1 rfl ?_
    refine mixed_rd hx0 hx1 (by walk_at "om") (by walk_at "om") (fun r r0 r1 => ?_)
    walk_at "st"
    refine br_dec (fun g => ?_) (fun g => ?_)
    · walk_at "wh"
      refine ixL_rd (v := .int x) h1 rfl ?_
      refine ixL_rd (v := .int (z + 1)) h1 rfl ?_
      refine mixed_rd hx0 hx1 (by walk_at "om") (by walk_at "om") (fun r2 r20 r21 => ?_)
      refine pow_rd ⟨by decide, by decide, by walk_at "om"⟩ ?_
      refine mulL_rd (by walk_at "om") (by walk_at "om") ?_
      refine modG_rd (by walk_at "om") (fun d d0 d1 => ?_)
      walk_at "wh"
      exact q _ _ d0 d1 c1 ⟨_, _, _, h1, .inr ⟨rfl, hx0, hx1⟩, by walk_at "om", by walk_at "om"⟩
    · walk_at "wh"
      refine mulL_rd (by walk_at "om") (by walk_at "om") ?_
      refine modG_rd (by walk_at "om") (fun d1 d10 d11 => ?_)
      refine modG_rd (by walk_at "om") (fun d d0 d1 => ?_)
      walk_at "wh"
      exact q _ _ d0 d1 c1 ⟨_, _, _, h1, .inr ⟨rfl, hx0, hx1⟩, by walk_at "om", by walk_at "om"⟩
  · have hy1 : y = 1 := by walk_at "om"
    subst hy1
    refine ixL_rd (v := .int x) h1 rfl ?_
    refine modG_rd (by walk_at "om") (fun d d0 d1 => ?_)
    refine ixL_rd (v := .int x) h1 rfl ?_
    walk_at "st"
    refine set_rd h1 (by rfl) (fun H2 c2 h2 => ?_)
    walk_at "wh"
    exact q _ _ d0 d1 (c1.trans c2) ⟨_, _, _, h2, .inl rfl, by walk_at "om", by walk_at "om"⟩
theorem LeftAt.chg {H H' : Hp} {a p : Addr} {b : Int} (h : LeftAt H a b) (c : Chg p H H') (n : a ≠ p) : LeftAt H' a b := by
  obtain ⟨x, y, z, e, r⟩ := h
  exact ⟨x, y, z, c _ _ n e, r⟩
theorem LeftAt.some {H : Hp} {a : Addr} {b : Int} (h : LeftAt H a b) : ∃ o, H a = some o := by
  obtain ⟨x, y, z, e, r⟩ := h
  exact ⟨_, e⟩
theorem Chg.free' {a l : Addr} {H H' : Hp} (x : Chg a H H') (h : H' l = none) (n : l ≠ a) : H l = none := by
  cases e : H l with
  | none => rfl
  | some o =>
    have := x l o n e
    rw [h] at this
    cases this
-- @@split
def Off (b : Addr) (ts : List (Addr × Addr)) : Prop := ∀ t ∈ ts, t.1 ≠ b ∧ t.2 ≠ b
theorem MixAt.chg {H H' : Hp} {m b : Addr} {ts : List (Addr × Addr)} {ms : List (List Int × Int)} (M : MixAt H m ts ms) (c : Chg b H H') (n : m ≠ b) (o : Off b ts) : MixAt H' m ts ms :=
  ⟨c _ _ n M.out, M.len, fun i t x h1 h2 => ⟨c _ _ (o t (List.mem_of_getElem? h1)).1 (M.part i t x h1 h2).1, c _ _ (o t (List.mem_of_getElem? h1)).2 (M.part i t x h1 h2).2⟩⟩
theorem MixAt.off {H : Hp} {m b : Addr} {ts : List (Addr × Addr)} {ms : List (List Int × Int)} (M : MixAt H m ts ms) (f : H b = none) : m ≠ b ∧ Off b ts := by
  refine ⟨ne_of_none M.out f, fun t ht => ?_⟩
  obtain ⟨i, hi⟩ := List.getElem?_of_mem ht
  obtain ⟨t', x, h1, h2, h3, h4⟩ := M.get (i := i) (by have := (List.getElem?_eq_some_iff.mp hi).1; have := M.len; omega)
  rw [hi] at h1
  cases h1
  exact ⟨ne_of_none h3 f, ne_of_none h4 f⟩
theorem MixAt.push {H H' : Hp} {m p q : Addr} {ts : List (Addr × Addr)} {ms : List (List Int × Int)} {x : List Int × Int} (M : MixAt H m ts ms) (c : Chg m H H') (o : Off m ts) (h' : H' m = some (.lst ((ts.map fun t => V.ref t.1) ++ [.ref p]))) (hp : H' p = some (.tup [.ref q, .int x.2])) (hq : H' q = some (.lst (x.1.map V.int))) : MixAt H' m (ts ++ [(p, q)]) (ms ++ [x]) := by
  refine ⟨by rw [h', List.map_append]; rfl, by rw [List.length_append, List.length_append, M.len]; rfl, fun i t y h1 h2 => ?_⟩
  by_cases hi : i < ts.length
  · rw [List.getElem?_append_left hi] at h1
    rw [List.getElem?_append_left (by have := M.len; omega)] at h2
    have := o t (List.mem_of_getElem? h1)
    exact ⟨c _ _ this.1 (M.part i t y h1 h2).1, c _ _ this.2 (M.part i t y h1 h2).2⟩
  · rw [List.getElem?_append_right (by walk_at "om")] at h1
    rw [List.getElem?_append_right (by have := M.len; omega)] at h2
    have e0 : i - ts.length = 0 := by
      have := (List.getElem?_eq_some_iff.mp h1).1
      simp at this; omega
    rw [e0] at h1
    rw [show i - ms.length = 0 by have := M.len; omega] at h2
    cases h1
    cases h2
    exact ⟨hp, hq⟩
theorem Off.push {b p q : Addr} {ts : List (Addr × Addr)} (o : Off b ts) (n1 : p ≠ b) (n2 : q ≠ b) : Off b (ts ++ [(p, q)]) := fun t ht => by
  rcases List.mem_append.mp ht with h | h
  · exact o t h
  · have : t = (p, q) := by simpa using h
    subst this
    exact ⟨n1, n2⟩
abbrev OkX (h f : Int) (x : List Int × Int) : Prop := (∀ n ∈ x.1, 0 ≤ n) ∧ (x.1.length : Int) = f ∧ x.1.sum = h ∧ 1 ≤ x.2
theorem all_push {α : Type} {p : α → Prop} {xs : List α} {y : α} (h : ∀ x ∈ xs, p x) (hy : p y) : ∀ x ∈ xs ++ [y], p x := fun x hx => by
  rcases List.mem_append.mp hx with h' | h'
  · exact h x h'
  · have : x = y := by simpa using h'
    subst this
    exact hy
/-! ### plans and mixes drawn -/
@[irreducible] def sp__law_plan : Sp := fun vs H Q _ => ∃ (a : Addr) (b : Int) (h f : Nat), vs = [.ref a, .int h, .int f] ∧ LeftAt H a b ∧ b ≤ 100000 ∧ h ≤ 40 ∧ (1 ≤ f ∧ f ≤ 8) ∧ ∀ l H' (ns : List Int), H l = none → Chg a H H' → LeftAt H' a (b + 10) → l ≠ a → H' l = some (.lst (ns.map V.int)) → ns.length = f → ns.sum = h → (∀ x ∈ ns, 0 ≤ x) → Q (.ref l) H'
theorem plan_rd {H : Hp} {a : Addr} {b : Int} {h f : Nat} {Q : VK} {E : XK} (hL : LeftAt H a b) (hb : b ≤ 100000) (h1 : h ≤ 40) (h2 : 1 ≤ f) (h3 : f ≤ 8) (q : ∀ l H' (ns : List Int), H l = none → Chg a H H' → LeftAt H' a (b + 10) → l ≠ a → H' l = some (.lst (ns.map V.int)) → ns.length = f → ns.sum = h → (∀ x ∈ ns, 0 ≤ x) → Q (.ref l) H') : sp__law_plan [.ref a, .int h, .int f] H Q E := by
  unfold sp__law_plan; exact ⟨a, b, h, f, rfl, hL, hb, h1, ⟨h2, h3⟩, q⟩
theorem rot_sum (ns : List Int) (k : Nat) : (ns.drop k ++ ns.take k).sum = ns.sum := by
  have := congrArg List.sum (List.take_append_drop k ns)
  rw [List.sum_append] at this ⊢
  omega
theorem ok__law_plan {f : Addr} {fd : FuncData} (F : Fun K "_law_plan" "_law_plan" s__law_plan f fd) (N : Nm mg) (D__law_draw : Def P w K mg base CX0 2 "_law_draw" ["_law_left_here", "_law_base"] sp__law_draw) : FnOk P w K mg base CX0 3 f fd ["_law_left_here", "_law_hosts", "_law_many"] sp__law_plan := by
  refine F.ok sc__law_plan (fun vs H Q E h => by unfold sp__law_plan at h; obtain ⟨_, _, _, _, rfl, _⟩ := h; rfl) (fun cdv A outer s H vs Q E hr h => ?_)
  unfold sp__law_plan at h
  obtain ⟨a, b, h, f, rfl, hL, hb, h1, ⟨h2, h3⟩, q⟩ := h
  refine ⟨_, (pss_cons (psS (i := 3) sc__law_plan.nd (peLst pa_nil))
      (pss_cons (psS (i := 4) sc__law_plan.nd (pq 1))
      (pss_cons (psFor PassesOwn.never rfl (piRng1 N.range_ (pa_cons (pe_op oSub (pq 2) pe_int) pa_nil)) (pg_name (i := 5) sc__law_plan.nd rfl (by first | exact Or.inl rfl | exact Or.inr rfl)) (pss_cons (ps_expr (peM_append (pq 3) (pa_cons (pD D__law_draw hr pass0 (pa_cons (pq 0) (pa_cons (pe_op oAdd (pq 4) pe_int) pa_nil))) pa_nil)))
      (pss_one (psS (i := 4) sc__law_plan.nd (pe_op oSub (pq 4) (peIxK (K := K) rfl (pq 3) (pe_un uNeg pe_int)))))))
      (pss_cons (ps_expr (peM_append (pq 3) (pa_cons (pq 4) pa_nil)))
      (pss_cons (psS (i := 6) sc__law_plan.nd (pD D__law_draw hr pass0 (pa_cons (pq 0) (pa_cons (pq 2) pa_nil))))
      (pss_one (ps_ret (pe_op oAdd (pe_slice (slXK (K := K) rfl) (pq 3) (poSome (pq 6)) po_none) (pe_slice (slXK (K := K) rfl) (pq 3) po_none (poSome (pq 6))))))))))), ?_⟩
  refine newL_rd (fun l H1 f1 s1 h1' => ?_)
  have n1 : l ≠ a := hL.ne f1
  refine range_rd (by decide) (by decide) (by walk_at "om") (by walk_at "om") ?_
  refine loop_range (fun i σ H2 => ∃ (x y : Option V) (ns : List Int) (r : Int), σ = [some (.ref a), some (.int h), some (.int f), some (.ref l), some (.int r), x, y] ∧ Chg a H H2 ∧ LeftAt H2 a (b + i) ∧ H2 l = some (.lst (ns.map V.int)) ∧ ns.length = i ∧ ns.sum + r = h ∧ 0 ≤ r ∧ r ≤ 40 ∧ ∀ x ∈ ns, 0 ≤ x) ?_ ?_ ?_
  · exact ⟨_, _, [], h, rfl, s1.toChg, (hL.same s1).up (by walk_at "om"), h1', rfl, by simp, by walk_at "om", by walk_at "om", by simp⟩
  · rintro i σ H2 hi ⟨x0, y0, ns, r, rfl, c2, L2, e2, l2, t2, r0, r1, nn⟩
    have hi : i < 8 := by walk_at "om"
    refine lst_is e2 ?_
    refine draw_rd L2 (by walk_at "om") (by walk_at "om") (by walk_at "om") (fun d3 H3 d30 d31 c3 L3 => ?_)
    have e3 := c3 _ _ n1 e2
    refine app_rd e3 (by rw [List.length_map, sizeLine_eq]; omega) (fun H4 c4 h4 => ?_)
    have h4 : H4 l = some (.lst ((ns ++ [d3]).map V.int)) := by rw [h4, List.map_append]; rfl
    refine ixL_rd (v := .int d3) h4 (at_last (n := i) (by rw [List.length_map, List.length_append, l2]; rfl) (by rw [List.getElem?_map, List.getElem?_append_right (by walk_at "om"), l2, Nat.sub_self]; rfl)) ?_
    walk_at "wh"
    have c23 : Chg a H H3 := c2.trans c3
    refine ⟨_, _, ns ++ [d3], r - d3, rfl, fun b o h1 e => c4 _ _ (ne_of_none e f1) (c23 _ _ h1 e), (L3.chg c4 (Ne.symm n1)).up (by walk_at "om"), h4, by rw [List.length_append, l2]; rfl, by rw [List.sum_append]; simp; omega, by walk_at "om", by walk_at "om", fun x hx => ?_⟩
    rcases List.mem_append.mp hx with hx | hx
    · exact nn x hx
    · have : x = d3 := by simpa using hx
      omega
  · rintro σ H2 ⟨x0, y0, ns, r, rfl, c2, L2, e2, l2, t2, r0, r1, nn⟩
    refine lst_is e2 ?_
    refine app_rd e2 (by rw [List.length_map, sizeLine_eq]; omega) (fun H3 c3 h3' => ?_)
    have h3' : H3 l = some (.lst ((ns ++ [r]).map V.int)) := by rw [h3', List.map_append]; rfl
    have L3 := L2.chg c3 (Ne.symm n1)
    refine draw_rd L3 (by walk_at "om") (by walk_at "om") (by walk_at "om") (fun at_ H4 a0 a1 c4 L4 => ?_)
    have h4 := c4 _ _ n1 h3'
    refine slL_rd (SqL.of h4) (fun p5 H5 f5 s5 h5 => ?_)
    rw [cut_drop (by walk_at "om"), ← List.map_drop] at h5
    refine slL_rd (SqL.of (s5 _ _ h4)) (fun p6 H6 f6 s6 h6 => ?_)
    rw [cut_takeV (by walk_at "om"), ← List.map_take] at h6
    refine cat_rd (s6 _ _ h5) h6 (by rw [List.length_map, List.length_map, List.length_drop, List.length_take, sizeLine_eq, List.length_append, l2, List.length_singleton]; omega) (fun p7 H7 f7 s7 h7 => ?_)
    walk_at "wh"
    have s56 := s5.trans s6
    have L6 := L4.same s56
    have c06 : Chg a H H6 := fun b o h1 e => s56 _ _ (c4 _ _ h1 (c3 _ _ (ne_of_none e f1) (c2 _ _ h1 e)))
    refine q p7 H7 ((ns ++ [r]).drop at_.toNat ++ (ns ++ [r]).take at_.toNat) (Chg.free' c06 f7 (L6.ne f7)) (c06.same s7) ((L6.same s7).up (by walk_at "om")) (L6.ne f7) (by rw [h7, List.map_append]) (by rw [List.length_append, List.length_drop, List.length_take, List.length_append, l2, List.length_singleton]; omega) (by rw [rot_sum, List.sum_append]; simp; omega) (fun x hx => ?_)
    have hx : x ∈ ns ++ [r] := by
      rcases List.mem_append.mp hx with hx | hx
      · exact List.mem_of_mem_drop hx
      · exact List.mem_of_mem_take hx
    rcases List.mem_append.mp hx with hx | hx
    · exact nn x hx
    · have : x = r := by simpa using hx
      omega
abbrev OkY (h f : Int) (x : List Int × Int) : Prop := OkX h f x ∧ x.2 ≤ 10 ^ 28
@[irreducible] def sp__law_lot : Sp := fun vs H Q _ => ∃ (a : Addr) (b : Int) (m : Nat), vs = [.ref a, .int m, .int 8, .int 8] ∧ LeftAt H a b ∧ b ≤ 10000 ∧ m ≤ 40 ∧ ∀ (h f : Nat) l ts ms H', H l = none → Chg a H H' → LeftAt H' a (b + 200) → l ≠ a → MixAt H' l ts ms → Off a ts → Off l ts → (h ≤ 40 ∧ 1 ≤ f ∧ f ≤ 8) → (1 ≤ ms.length ∧ ms.length ≤ 8) → (∀ x ∈ ms, OkY h f x) → Q (.ref l) H'
theorem lot_rd {H : Hp} {a : Addr} {b : Int} {m : Nat} {Q : VK} {E : XK} (hL : LeftAt H a b) (hb : b ≤ 10000) (hm : m ≤ 40) (q : ∀ (h f : Nat) l ts ms H', H l = none → Chg a H H' → LeftAt H' a (b + 200) → l ≠ a → MixAt H' l ts ms → Off a ts → Off l ts → (h ≤ 40 ∧ 1 ≤ f ∧ f ≤ 8) → (1 ≤ ms.length ∧ ms.length ≤ 8) → (∀ x ∈ ms, OkY h f x) → Q (.ref l) H') : sp__law_lot [.ref a, .int m, .int 8, .int 8] H Q E := by
  unfold sp__law_lot; exact ⟨a, b, m, rfl, hL, hb, hm, q⟩
theorem ok__law_lot {f : Addr} {fd : FuncData} (F : Fun K "_law_lot" "_law_lot" s__law_lot f fd) (N : Nm mg) (D__law_draw : Def P w K mg base CX0 2 "_law_draw" ["_law_left_here", "_law_base"] sp__law_draw) (D__law_plan : Def P w K mg base CX0 3 "_law_plan" ["_law_left_here", "_law_hosts", "_law_many"] sp__law_plan) : FnOk P w K mg base CX0 4 f fd ["_law_left_here", "_law_most", "_law_fields", "_law_parts"] sp__law_lot := by
  refine F.ok sc__law_lot (fun vs H Q E h => by unfold sp__law_lot at h; obtain ⟨_, _, _, rfl, _⟩ := h; rfl) (fun cdv A outer s H vs Q E hr h => ?_)
  unfold sp__law_lot at h
  obtain ⟨a, b, m, rfl, hL, hb, hm, q⟩ := h
  have hu := hu40 hr
  refine ⟨_, (pss_cons (psS (i := 4) sc__law_lot.nd (pD D__law_draw hr pass0 (pa_cons (pq 0) (pa_cons (pe_op oAdd (pq 1) pe_int) pa_nil))))
      (pss_cons (psS (i := 5) sc__law_lot.nd (pe_op oAdd pe_int (pD D__law_draw hr pass0 (pa_cons (pq 0) (pa_cons (pq 2) pa_nil)))))
      (pss_cons (psS (i := 6) sc__law_lot.nd (peLst pa_nil))
      (pss_cons (psFor PassesOwn.never rfl (piRng1 N.range_ (pa_cons (pe_op oAdd pe_int (pD D__law_draw hr pass0 (pa_cons (pq 0) (pa_cons (pq 3) pa_nil)))) pa_nil)) (pg_name (i := 7) sc__law_lot.nd rfl (by first | exact Or.inl rfl | exact Or.inr rfl)) (pss_cons (psS (i := 8) sc__law_lot.nd (pe_op oAdd pe_int (pD D__law_draw hr pass0 (pa_cons (pq 0) (pa_cons (peIxK (K := K) rfl (peLst (pa_cons pe_int (pa_cons pe_int (pa_cons (pe_op oPow pe_int pe_int) pa_nil)))) (pD D__law_draw hr pass0 (pa_cons (pq 0) (pa_cons pe_int pa_nil)))) pa_nil)))))
      (pss_one (psIf (ptW (pwAnd (ptC oGt (pq 7) pe_int) (pw_and1 (ptC (oEqXK (K := K) rfl (by exact hu)) (pD D__law_draw hr pass0 (pa_cons (pq 0) (pa_cons pe_int pa_nil))) pe_int)))) (pss_one (ps_expr (peM_append (pq 6) (pa_cons (peTup (pa_cons (pT (cListK (K := K) rfl) N.list_ bt_list (pa_cons (peIxK (K := K) rfl (peIxK (K := K) rfl (pq 6) (pD D__law_draw hr pass0 (pa_cons (pq 0) (pa_cons (pq 7) pa_nil)))) pe_int) pa_nil)) (pa_cons (pq 8) pa_nil))) pa_nil)))) (pss_one (ps_expr (peM_append (pq 6) (pa_cons (peTup (pa_cons (pD D__law_plan hr pass0 (pa_cons (pq 0) (pa_cons (pq 4) (pa_cons (pq 5) pa_nil)))) (pa_cons (pq 8) pa_nil))) pa_nil))))))))
      (pss_one (ps_ret (pq 6))))))), ?_⟩
  refine draw_rd hL (by walk_at "om") (by walk_at "om") (by walk_at "om") (fun dh H1 dh0 dh1 c1 L1 => ?_)
  obtain ⟨h, rfl⟩ : ∃ h : Nat, dh = h := ⟨dh.toNat, by walk_at "om"⟩
  refine draw_rd L1 (by walk_at "om") (by walk_at "om") (by walk_at "om") (fun df H2 df0 df1 c2 L2 => ?_)
  obtain ⟨f, ef⟩ : ∃ f : Nat, 1 + df = f := ⟨(1 + df).toNat, by walk_at "om"⟩
  have hf : h ≤ 40 ∧ 1 ≤ f ∧ f ≤ 8 := by walk_at "om"
  walk_at "wh"
  rw [ef]
  refine newL_rd (fun l H3 f3 s3 h3 => ?_)
  have n1 : l ≠ a := L2.ne f3
  have c03 : Chg a H H3 := (c1.trans c2).same s3
  have f0 : H l = none := Chg.free' (c1.trans c2) f3 n1
  refine draw_rd (L2.same s3) (by walk_at "om") (by walk_at "om") (by walk_at "om") (fun dn H4 dn0 dn1 c4 L4 => ?_)
  refine range_rd (by decide) (by decide) (by walk_at "om") (by walk_at "om") ?_
  obtain ⟨n, en⟩ : ∃ n : Nat, (1 + dn - 0).toNat = n := ⟨_, rfl⟩
  rw [en]
  have hn1 : 1 ≤ n ∧ n ≤ 8 := by walk_at "om"
  refine loop_range (fun i σ I => ∃ (x y : Option V) (ts : List (Addr × Addr)) (ms : List (List Int × Int)), σ = [some (.ref a), some (.int m), some (.int 8), some (.int 8), some (.int h), some (.int f), some (.ref l), x, y] ∧ Chg a H I ∧ LeftAt I a (b + 4 + 20 * i) ∧ MixAt I l ts ms ∧ Off a ts ∧ Off l ts ∧ ms.length = i ∧ ∀ x ∈ ms, OkY h f x) ?_ ?_ ?_
  · refine ⟨_, _, [], [], rfl, c03.trans c4, L4.up (by walk_at "om"), ⟨c4 _ _ n1 h3, rfl, fun i t x e => by simp at e⟩, ?_, ?_, rfl, ?_⟩
    · intro t ht; cases ht
    · intro t ht; cases ht
    · intro x hx; cases hx
  · rintro i σ I hi ⟨x0, y0, ts, ms, rfl, cI, LI, M, O1, O2, ml, ok⟩
    have hi : i < 8 := by walk_at "om"
    walk_at "st"
    refine newL_rd (fun p5 H5 f5 s5 h5 => ?_)
    refine draw_rd (LI.same s5) (by walk_at "om") (by walk_at "om") (by walk_at "om") (fun d6 H6 d60 d61 c6 L6 => ?_)
    have h56 := c6 _ _ (LI.ne f5) h5
    refine ixAny_rd h56 (by walk_at "om") (by simp only [List.length_cons, List.length_nil]; omega) ?_
    intro v hv
    obtain ⟨wm, rfl, wm0, wm1⟩ : ∃ m : Int, v = .int m ∧ 1 ≤ m ∧ m ≤ 10 ^ 28 := by
      simp only [List.mem_cons, List.not_mem_nil, or_false] at hv
      rcases hv with rfl | rfl | rfl <;> exact ⟨_, rfl, by walk_at "om", by walk_at "om"⟩
    clear hv h56 h5
    refine draw_rd L6 (by walk_at "om") (by walk_at "om") (by walk_at "om") (fun d7 H7 d70 d71 c7 L7 => ?_)
    have c57 : Chg a I H7 := (s5.toChg.trans c6).trans c7
    have M7 := ((M.same s5).chg c6 n1 O1).chg c7 n1 O1
    have c07 := cI.trans c57
    have wt : 1 ≤ 1 + d7 ∧ 1 + d7 ≤ 10 ^ 28 := by walk_at "om"
    walk_at "wh"
    generalize 1 + d7 = wt_ at wt ⊢
    refine br_dec (fun z => ?_) (fun z => ?_)
    · walk_at "wh"
      refine draw_rd L7 (by walk_at "om") (by walk_at "om") (by walk_at "om") (fun d8 H8 d80 d81 c8 L8 => ?_)
      have M8 := M7.chg c8 n1 O1
      refine br_dec (fun z8 => ?_) (fun z8 => ?_)
      · walk_at "wh"
        refine lst_is M8.out ?_
        refine draw_rd L8 (by walk_at "om") (by walk_at "om") (by walk_at "om") (fun d9 H9 d90 d91 c9 L9 => ?_)
        have M9 := M8.chg c9 n1 O1
        obtain ⟨k, rfl⟩ : ∃ k : Nat, d9 = k := ⟨d9.toNat, by walk_at "om"⟩
        obtain ⟨x, ex⟩ : ∃ x, ms[k]? = some x := ⟨_, List.getElem?_eq_getElem (by walk_at "om")⟩
        obtain ⟨t, et, at0, ht, hp⟩ := M9.ix ex
        obtain ⟨⟨x1, x2, x3, _⟩, _⟩ := ok x (List.mem_of_getElem? ex)
        refine ixL_rd (v := .ref t.1) M9.out at0 ?_
        refine ixT_rd (v := .ref t.2) ht rfl ?_
        refine listL_rd (SqL.of hp) (fun pa Ha fa sa ha => ?_)
        refine newT_rd (fun pb Hb fb sb hb => ?_)
        have nal : pa ≠ l := Ne.symm (ne_of_none M9.out fa)
        have nbl : pb ≠ l := Ne.symm (ne_of_none (sa _ _ M9.out) fb)
        have Mb := (M9.same sa).same sb
        refine app_rd Mb.out (by rw [List.length_map, sizeLine_eq, Mb.len]; omega) (fun Hc cc hc => ?_)
        walk_at "wh"
        have Mc := Mb.push cc O2 hc (x := (x.1, wt_)) (cc _ _ nbl hb) (cc _ _ nal (sb _ _ ha))
        have c0b : Chg a H Hb := (((c07.trans c8).trans c9).same sa).same sb
        exact ⟨_, _, _, _, rfl, fun b o z e => cc _ _ (ne_of_none e f0) (c0b _ _ z e), (((L9.same sa).same sb).chg cc (Ne.symm n1)).up (by walk_at "om"), Mc, O1.push ((L9.same sa).ne fb) (L9.ne fa), O2.push nbl nal, by rw [List.length_append, ml]; rfl, all_push ok ⟨⟨x1, x2, x3, by walk_at "om"⟩, by walk_at "om"⟩⟩
      · walk_at "wh"
        refine lst_is M8.out ?_
        refine plan_rd L8 (by walk_at "om") hf.1 hf.2.1 hf.2.2 (fun pa Ha ns fa ca La na ha k1 k2 k3 => ?_)
        have Ma := M8.chg ca n1 O1
        refine newT_rd (fun pb Hb fb sb hb => ?_)
        have nal : pa ≠ l := Ne.symm (ne_of_none M8.out fa)
        have nbl : pb ≠ l := Ne.symm (ne_of_none Ma.out fb)
        have Mb := Ma.same sb
        refine app_rd Mb.out (by rw [List.length_map, sizeLine_eq, Mb.len]; omega) (fun Hc cc hc => ?_)
        walk_at "wh"
        have Mc := Mb.push cc O2 hc (x := (ns, wt_)) (cc _ _ nbl hb) (cc _ _ nal (sb _ _ ha))
        have c0b : Chg a H Hb := ((c07.trans c8).trans ca).same sb
        exact ⟨_, _, _, _, rfl, fun b o z e => cc _ _ (ne_of_none e f0) (c0b _ _ z e), ((La.same sb).chg cc (Ne.symm n1)).up (by walk_at "om"), Mc, O1.push (La.ne fb) na, O2.push nbl nal, by rw [List.length_append, ml]; rfl, all_push ok ⟨⟨k3, by rw [k1], k2, by walk_at "om"⟩, by walk_at "om"⟩⟩
    · walk_at "wh"
      refine br_F ?_
      refine lst_is M7.out ?_
      refine plan_rd L7 (by walk_at "om") hf.1 hf.2.1 hf.2.2 (fun pa Ha ns fa ca La na ha k1 k2 k3 => ?_)
      have Ma := M7.chg ca n1 O1
      refine newT_rd (fun pb Hb fb sb hb => ?_)
      have nal : pa ≠ l := Ne.symm (ne_of_none M7.out fa)
      have nbl : pb ≠ l := Ne.symm (ne_of_none Ma.out fb)
      have Mb := Ma.same sb
      refine app_rd Mb.out (by rw [List.length_map, sizeLine_eq, Mb.len]; omega) (fun Hc cc hc => ?_)
      walk_at "wh"
      have Mc := Mb.push cc O2 hc (x := (ns, wt_)) (cc _ _ nbl hb) (cc _ _ nal (sb _ _ ha))
      have c0b : Chg a H Hb := (c07.trans ca).same sb
      exact ⟨_, _, _, _, rfl, fun b o z e => cc _ _ (ne_of_none e f0) (c0b _ _ z e), ((La.same sb).chg cc (Ne.symm n1)).up (by walk_at "om"), Mc, O1.push (La.ne fb) na, O2.push nbl nal, by rw [List.length_append, ml]; rfl, all_push ok ⟨⟨k3, by rw [k1], k2, by walk_at "om"⟩, by walk_at "om"⟩⟩
  · rintro σ I ⟨x0, y0, ts, ms, rfl, cI, LI, M, O1, O2, ml, ok⟩
    walk_at "wh"
    exact q h f l ts ms I f0 cI (LI.up (by walk_at "om")) n1 M O1 O2 hf (by walk_at "om") ok
-- @@split
/-! ### the flows of a mix, as the law adds them up -/
theorem flw_take {ms : List (List Int × Int)} {j : Nat} {x : List Int × Int} (h : ms[j]? = some x) (i : Nat) : sumG (flw (ms.take (j + 1)) i) = addG (sumG (flw (ms.take j) i)) (((x.1.drop i).sum, x.1.getD i 0), x.2) := by
  unfold flw
  rw [List.take_succ, h, List.map_append]
  exact sumG_snoc _ _
theorem flw_len (ms : List (List Int × Int)) (i : Nat) : (sumG (flw ms i)).length ≤ ms.length := by
  have := sumG_len (flw ms i)
  unfold flw at this ⊢
  rwa [List.length_map] at this
structure DsAt (H0 H : Hp) (l : Addr) (ds : List Addr) (g : Nat → List ((Int × Int) × Int)) : Prop where
  fl : H0 l = none
  out : H l = some (.lst (ds.map V.ref))
  nd : ds.Nodup
  nin : l ∉ ds
  row : ∀ (i : Nat) d, ds[i]? = some d → H0 d = none ∧ H d = some (.dT (dF pK (g i)))
theorem DsAt.put {H0 H H' : Hp} {l d : Addr} {ds : List Addr} {g : Nat → List ((Int × Int) × Int)} {k : Nat} {n : List ((Int × Int) × Int)} (D : DsAt H0 H l ds g) (e : ds[k]? = some d) (c : Chg d H H') (h : H' d = some (.dT (dF pK n))) : DsAt H0 H' l ds fun i => if i = k then n else g i := by
  refine ⟨D.fl, c _ _ (fun z => D.nin (z ▸ List.mem_of_getElem? e)) D.out, D.nd, D.nin, fun i d' e' => ?_⟩
  by_cases hi : i = k
  · subst hi
    rw [e] at e'
    cases e'
    exact ⟨(D.row i d e).1, by rw [h, if_pos rfl]⟩
  · rw [if_neg hi]
    have ne : d' ≠ d := fun z => by
      subst z
      exact hi ((List.getElem?_inj (List.getElem?_eq_some_iff.mp e').1 D.nd).mp (e'.trans e.symm))
    exact ⟨(D.row i d' e').1, c _ _ ne (D.row i d' e').2⟩
theorem DsAt.ext {H0 H : Hp} {l : Addr} {ds : List Addr} {g g' : Nat → List ((Int × Int) × Int)} (D : DsAt H0 H l ds g) (h : ∀ i, i < ds.length → g i = g' i) : DsAt H0 H l ds g' :=
  ⟨D.fl, D.out, D.nd, D.nin, fun i d e => ⟨(D.row i d e).1, by rw [← h i (List.getElem?_eq_some_iff.mp e).1]; exact (D.row i d e).2⟩⟩
@[irreducible] def sp__law_flows : Sp := fun vs H Q _ => ∃ (m : Addr) (ts : List (Addr × Addr)) (ms : List (List Int × Int)) (f : Nat), vs = [.ref m] ∧ MixAt H m ts ms ∧ (1 ≤ ms.length ∧ ms.length < 64) ∧ f ≤ 100 ∧ (∀ x ∈ ms, x.1.length = f) ∧ ∀ r rs xss H', Same H H' → StAt (nw H H') r rs xss → StmIs ms f xss → Q (.ref r) H'
theorem flows_rd {H : Hp} {m : Addr} {ts : List (Addr × Addr)} {ms : List (List Int × Int)} {f : Nat} {Q : VK} {E : XK} (M : MixAt H m ts ms) (h1 : 1 ≤ ms.length) (h2 : ms.length < 64) (h3 : f ≤ 100) (h4 : ∀ x ∈ ms, x.1.length = f) (q : ∀ r rs xss H', Same H H' → StAt (nw H H') r rs xss → StmIs ms f xss → Q (.ref r) H') : sp__law_flows [.ref m] H Q E := by
  unfold sp__law_flows; exact ⟨m, ts, ms, f, rfl, M, ⟨h1, h2⟩, h3, h4, q⟩
set_option maxHeartbeats 0 in
theorem ok__law_flows {f : Addr} {fd : FuncData} (F : Fun K "_law_flows" "_law_flows" s__law_flows f fd) (N : Nm mg) : FnOk P w K mg base CX0 1 f fd ["_law_mix_here"] sp__law_flows := by
  refine F.ok sc__law_flows (fun vs H Q E h => by unfold sp__law_flows at h; obtain ⟨_, _, _, _, rfl, _⟩ := h; rfl) (fun cdv A outer s H vs Q E hr h => ?_)
  unfold sp__law_flows at h
  obtain ⟨m, ts, ms, f, rfl, M, ⟨m1, m2⟩, hf, fl, q⟩ := h
  have hu := hu40 hr
  have ml := M.len
  refine ⟨_, (pss_cons (psC (i := 1) (N := ["_law_place"]) (ks := [none]) sc__law_flows.nd (piSeqK (K := K) rfl (peIxK (K := K) rfl (peIxK (K := K) rfl (pq 0) pe_int) pe_int)) (fun cl C s3 H3 fp => (pg_name (i := 0) nb_13 rfl (by first | exact Or.inl rfl | exact Or.inr rfl))) (fun cl C s3 H3 fp => pts_nil) (fun cl C s3 H3 fp => peDNewE) (.skip .nil))
      (pss_cons (psFor PassesOwn.never rfl (piSeqK (K := K) rfl (pq 0)) (pgAnyK (K := K) (n := 2) rfl rfl (pgsCons (pg_name (i := 2) sc__law_flows.nd rfl (by first | exact Or.inl rfl | exact Or.inr rfl)) (pgsCons (pg_name (i := 3) sc__law_flows.nd rfl (by first | exact Or.inl rfl | exact Or.inr rfl)) pgsNil))) (pss_one (psFor PassesOwn.never rfl (piRng1 N.range_ (pa_cons (pB (cLenK (K := K) rfl) N.len_ bt_len (pa_cons (pq 2) pa_nil)) pa_nil)) (pg_name (i := 4) sc__law_flows.nd rfl (by first | exact Or.inl rfl | exact Or.inr rfl)) (pss_cons (psS (i := 5) sc__law_flows.nd (peTup (pa_cons (pB (cSumK (K := K) rfl rfl) N.sum_ bt_sum (pa_cons (pe_slice (slXK (K := K) rfl) (pq 2) (poSome (pq 4)) po_none) pa_nil)) (pa_cons (peIxK (K := K) rfl (pq 2) (pq 4)) pa_nil))))
      (pss_one (psDPut (by exact hu) (peIxK (K := K) rfl (pq 1) (pq 4)) (pq 5) (pe_op oAdd (peM_get2 (by exact hu) (peIxK (K := K) rfl (pq 1) (pq 4)) (pq 5) pe_int) (pq 3))))))))
      (pss_one (ps_ret (peComp1 (x0 := "_law_flow") (N := ["_law_flow"]) (ks := [none]) (piSeqK (K := K) rfl (pq 1)) (fun cl C s3 H3 fp => (pg_name (i := 0) nb_14 rfl (by first | exact Or.inl rfl | exact Or.inr rfl))) (fun cl C s3 H3 fp => pts_nil) (fun cl C s3 H3 fp => (peComp (N := ["_law_rest", "_law_sent", "_law_flow"]) (ks := [none, none, some 0]) (piSeqK (K := K) rfl (pB (cSortO rfl) N.sorted_ bt_sorted (pa_cons (pq 0) pa_nil))) (fun cl C s3 H3 fp => (pgAnyK (K := K) (n := 2) rfl rfl (pgsCons (pg_name (i := 0) nb_15 rfl (by first | exact Or.inl rfl | exact Or.inr rfl)) (pgsCons (pg_name (i := 1) nb_15 rfl (by first | exact Or.inl rfl | exact Or.inr rfl)) pgsNil)))) (fun cl C s3 H3 fp => pts_nil) (fun cl C s3 H3 fp => (peTup (pa_cons (pq 0) (pa_cons (pq 1) (pa_cons (peDGet (by exact hu) (pq 2) (peTup (pa_cons (pq 0) (pa_cons (pq 1) pa_nil)))) pa_nil))))) (.skip (.skip (.take rfl rfl (by first | exact Or.inl rfl | exact Or.inr rfl) .nil))))) (.skip .nil)))))), ?_⟩
  obtain ⟨x0, ex0⟩ : ∃ x, ms[0]? = some x := ⟨_, List.getElem?_eq_getElem (by walk_at "om")⟩
  obtain ⟨t0, et0, at0, ht0, hp0⟩ := M.ix ex0
  have l0 := fl x0 (List.mem_of_getElem? ex0)
  refine ixL_rd (v := .ref t0.1) M.out at0 ?_
  refine ixT_rd (v := .ref t0.2) ht0 rfl ?_
  refine iterL_rd hp0 ?_
  refine comp_F (n := (x0.1.map V.int).length) (Wk.list (SqL.of hp0)) (by rw [List.length_map, sizeLine_eq]; omega) (fun j => .dT []) (fun j σ => ∃ t : Option V, σ = [t]) ⟨none, rfl⟩ ?_ ?_
  · rintro j v σ H4 R' S' hj s4 hx ⟨t, rfl⟩ k
    refine br_T ?_
    refine dnT_rd (fun p5 H5 f5 s5 h5 => ?_)
    walk_at "wh"
    exact k _ _ _ f5 s5 h5 ⟨_, rfl⟩
  intro l ds H1 F1
  rw [List.length_map, l0] at F1
  have dl := F1.len
  have D1 : DsAt H H1 l ds fun i => sumG (flw (ms.take 0) i) := ⟨F1.facc, F1.out, F1.nd, F1.nin, fun i d e => F1.row i d e⟩
  have s1 := F1.same
  clear F1
  refine iterL_rd (s1 _ _ M.out) ?_
  refine loop_list (xs := ts.map fun t => V.ref t.1) (fun j σ I => ∃ t u v w : Option V, σ = [some (.ref m), some (.ref l), t, u, v, w] ∧ Same H I ∧ DsAt H I l ds fun i => sumG (flw (ms.take j) i)) ?_ ?_ ?_ ?_
  · exact ⟨_, _, _, _, rfl, s1, D1⟩
  · rintro j σ I _ ⟨_, _, _, _, _, s2, _⟩
    exact SqL.of (s2 _ _ M.out)
  · rintro j v σ I hj ⟨_, _, _, _, rfl, s2, D2⟩
    obtain ⟨t, x, rfl, e1, e2, e3, e4⟩ := (M.same s2).elt hj
    have jl := (List.getElem?_eq_some_iff.mp e2).1
    have e40 := (M.part j t x e1 e2).2
    have xl := fl x (List.mem_of_getElem? e2)
    refine unpT_rd e3 ?_
    refine lenL_rd e4 ?_
    rw [List.length_map, xl]
    refine range_rd (by walk_at "om") (by walk_at "om") (by walk_at "om") (by walk_at "om") ?_
    refine loop_range (fun k σ I2 => ∃ v w : Option V, σ = [some (.ref m), some (.ref l), some (.ref t.2), some (.int x.2), v, w] ∧ Same H I2 ∧ DsAt H I2 l ds fun i => if i < k then sumG (flw (ms.take (j + 1)) i) else sumG (flw (ms.take j) i)) ?_ ?_ ?_
    · exact ⟨_, _, rfl, s2, D2.ext fun i _ => by rw [if_neg (by walk_at "om")]⟩
    · rintro k σ I2 hk ⟨_, _, rfl, s3, D3⟩
      have hk : k < f := by walk_at "om"
      obtain ⟨d, ed⟩ : ∃ d, ds[k]? = some d := ⟨_, List.getElem?_eq_getElem (by walk_at "om")⟩
      obtain ⟨dn, dh⟩ := D3.row k d ed
      rw [if_neg (by walk_at "om")] at dh
      have e43 := s3 _ _ e40
      have kx : x.1[k]? = some (x.1.getD k 0) := by rw [List.getD_eq_getElem?_getD, List.getElem?_eq_getElem (by walk_at "om")]; rfl
      refine slL_rd (SqL.of e43) (fun p4 I4 f4 s4 h4 => ?_)
      rw [cut_drop (by walk_at "om"), show ((0 : Int) + (k : Int)).toNat = k by walk_at "om", ← List.map_drop] at h4
      refine sum_rd h4 ?_
      refine ixL_rd (v := .int (x.1.getD k 0)) (s4 _ _ e43) (int_at (by walk_at "om") (by rw [show ((0 : Int) + (k : Int)).toNat = k by walk_at "om"]; exact kx)) ?_
      refine newT_rd (fun p5 I5 f5 s5 h5 => ?_)
      have s35 := s4.trans s5
      have h5 : I5 p5 = some (.tup ((pK ((x.1.drop k).sum, x.1.getD k 0)).map kV)) := h5
      have dk : atI (ds.map V.ref) ((0 : Int) + (k : Int)) = some (.ref d) := ref_at (by walk_at "om") (by rw [show ((0 : Int) + (k : Int)).toNat = k by walk_at "om"]; exact ed)
      have lo := s35 _ _ D3.out
      have dh5 := s35 _ _ dh
      refine ixL_rd (v := .ref d) lo dk ?_
      refine isdT_rd dh5 ?_
      refine dg2T_rd dh5 (k := pK ((x.1.drop k).sum, x.1.getD k 0)) h5 ?_
      have ev : (valV (dF pK (sumG (flw (ms.take j) k))) (pK ((x.1.drop k).sum, x.1.getD k 0))).getD (V.int 0) = .int ((valG (sumG (flw (ms.take j) k)) ((x.1.drop k).sum, x.1.getD k 0)).getD 0) := by
        rw [valV_dF pK_inj']
        cases valG (sumG (flw (ms.take j) k)) ((x.1.drop k).sum, x.1.getD k 0) <;> rfl
      rw [ev]
      refine ixL_rd (v := .ref d) lo dk ?_
      refine dpT_rd dh5 (k := pK ((x.1.drop k).sum, x.1.getD k 0)) h5 (by unfold dF; rw [List.length_map, sizeLine_eq]; have := flw_len (ms.take j) k; rw [List.length_take] at this; omega) (fun I6 c6 h6 => ?_)
      rw [putK_dF pK_inj'] at h6
      walk_at "wh"
      have D5 : DsAt H I5 l ds fun i => if i < k then sumG (flw (ms.take (j + 1)) i) else sumG (flw (ms.take j) i) := ⟨D3.fl, lo, D3.nd, D3.nin, fun i d e => ⟨(D3.row i d e).1, s35 _ _ (D3.row i d e).2⟩⟩
      refine ⟨_, _, rfl, (s3.trans s35).chg dn c6, (D5.put ed c6 h6).ext fun i _ => ?_⟩
      by_cases hi : i = k
      · subst hi
        rw [if_pos rfl, if_pos (by walk_at "om"), flw_take e2]
        rfl
      · rw [if_neg hi]
        by_cases h' : i < k
        · rw [if_pos h', if_pos (by walk_at "om")]
        · rw [if_neg h', if_neg (by walk_at "om")]
    · rintro σ I2 ⟨_, _, rfl, s3, D3⟩
      walk_at "wh"
      exact ⟨_, _, _, _, rfl, s3, D3.ext fun i hi => by rw [if_pos (by walk_at "om")]⟩
  · rintro σ H2 ⟨_, _, _, _, rfl, s2, D2⟩
    rw [List.length_map, ml, List.take_length] at D2
    refine iterL_rd D2.out ?_
    refine comp_A (Wk.list (SqL.of D2.out)) (by rw [List.length_map, sizeLine_eq]; omega) (fun acc j ys σ I => ∃ (t : Option V) (rs : List (Addr × List Addr)) (xss : List (List (Int × Int × Int))), σ = [t] ∧ ys = (rs.map fun r => V.ref r.1) ∧ rs.length = j ∧ xss.length = j ∧ (∀ (i : Nat) r xs, rs[i]? = some r → xss[i]? = some xs → RwAt (rm acc (nw H2 I)) r.1 r.2 xs) ∧ (∀ (i : Nat) xs, xss[i]? = some xs → RowIs ms i xs ∧ xs.length ≤ ms.length) ∧ (rs.map (·.1)).Nodup) ?_ ?_ ?_ ?_
    · intro acc I f1 s2 h1
      exact ⟨none, [], [], rfl, rfl, rfl, rfl, fun i r xs e => by simp at e, fun i xs e => by simp at e, List.nodup_nil⟩
    · rintro acc j ys σ I I' s' ⟨t, rs, xss, r1, r2, r3, r4, r5, r6, r7⟩
      exact ⟨t, rs, xss, r1, r2, r3, r4, fun i r xs e1 e2 => (r5 i r xs e1 e2).same (Same.rm (nw_up s')), r6, r7⟩
    · rintro acc j v ys σ I R S hj facc s3 hacc hx ⟨t, rs, xss, rfl, rfl, rl, xl, rp, xp, nd⟩ kR _
      rw [List.getElem?_map] at hx
      obtain ⟨d, ed, rfl⟩ := Option.map_eq_some_iff.mp hx
      have dh := s3 _ _ (D2.row j d ed).2
      have dh' : I d = some (.dT (((sumG (flw ms j)).map fun z => (z.1, V.int z.2)).map fun z => (pK z.1, z.2))) := by rw [dh, List.map_map]; rfl
      have sl := flw_len ms j
      refine br_T ?_
      refine soO_rd dh' (by rw [List.length_map]; omega) (fun p4 I4 bs ks f4 s4 pm od pr h4 => ?_)
      have pm : ks.Perm ((sumG (flw ms j)).map (·.1)) := by rw [List.map_map] at pm; exact pm
      have bl : bs.length = ks.length := pr.length
      have kl : ks.length ≤ ms.length := by have := pm.length_eq; rw [List.length_map] at this; omega
      have eg : ∀ x ∈ ks, valG (sumG (flw ms j)) x = some ((valG (sumG (flw ms j)) x).getD 0) := fun x hx => by
        obtain ⟨n, e⟩ := valG_key (pm.mem_iff.mp hx)
        rw [e]; rfl
      refine iterL_rd h4 ?_
      refine comp_F (n := (bs.map V.ref).length) (Wk.list (SqL.of h4)) (by rw [List.length_map, sizeLine_eq]; omega) (fun j' => .tup [.int (ks.getD j' (0, 0)).1, .int (ks.getD j' (0, 0)).2, .int ((valG (sumG (flw ms j)) (ks.getD j' (0, 0))).getD 0)]) (fun j σ => ∃ t u : Option V, σ = [t, u, some (.ref d)]) ⟨none, none, rfl⟩ ?_ ?_
      · rintro j' v σ H4 R' S' hj s5 hx ⟨t, u, rfl⟩ k
        rw [List.getElem?_map] at hx
        obtain ⟨b, eb, rfl⟩ := Option.map_eq_some_iff.mp hx
        obtain ⟨x, ex⟩ : ∃ x, ks[j']? = some x := ⟨ks[j']'(by have := (List.getElem?_eq_some_iff.mp eb).1; omega), List.getElem?_eq_getElem _⟩
        have eb' := s5 _ _ (paired_at pr j' b x eb ex)
        rw [show ks.getD j' (0, 0) = x by rw [List.getD_eq_getElem?_getD, ex]; rfl] at k
        have h4 := s5 _ _ (s4 _ _ dh)
        refine unpT_rd eb' ?_
        refine br_T ?_
        refine newT_rd (fun p5 H5 f5 s5 h5 => ?_)
        refine dgT_rd (s5 _ _ h4) (k := pK x) h5 (by rw [valV_dF pK_inj', eg x (List.mem_of_getElem? ex)]; rfl) ?_
        refine newT_rd (fun pa Ha fa sa ha => ?_)
        walk_at "wh"
        exact k _ _ _ (s5.free fa) (s5.trans sa) ha ⟨_, _, rfl⟩
      intro acc4 ps H4 F4
      rw [List.length_map] at F4
      have F4l := F4.len
      have s34 := s4.trans F4.same
      walk_at "wh"
      have R4 : RwAt (nw I H4) acc4 ps (ks.map fun x => (x.1, x.2, (valG (sumG (flw ms j)) x).getD 0)) := ⟨nw_at (s4.free F4.facc) F4.out, by rw [List.length_map]; omega, fun j b x e1 e2 => by
        rw [List.getElem?_map] at e2
        obtain ⟨y, ey, rfl⟩ := Option.map_eq_some_iff.mp e2
        obtain ⟨z1, z2⟩ := F4.row j b e1
        rw [show ks.getD j (0, 0) = y by rw [List.getD_eq_getElem?_getD, ey]; rfl] at z2
        exact nw_at (s4.free z1) z2⟩
      have ri : RowIs ms j (ks.map fun x => (x.1, x.2, (valG (sumG (flw ms j)) x).getD 0)) := by
        have em : (ks.map fun x => (x.1, x.2, (valG (sumG (flw ms j)) x).getD 0)).map keyT = ks := by
          rw [List.map_map]
          exact (List.map_congr_left fun x _ => rfl).trans (List.map_id _)
        refine ⟨by rw [em]; exact od, fun k => by rw [em]; exact pm.mem_iff, fun z hz => ?_⟩
        obtain ⟨x, hx, rfl⟩ := List.mem_map.mp hz
        exact eg x hx
      have xl1 : (ks.map fun x => (x.1, x.2, (valG (sumG (flw ms j)) x).getD 0)).length ≤ ms.length := by rw [List.length_map]; exact kl
      generalize (ks.map fun x => (x.1, x.2, (valG (sumG (flw ms j)) x).getD 0)) = xs at R4 ri xl1
      refine kR _ _ _ s34 (fun I2 c2 => ⟨_, rs ++ [(acc4, ps)], xss ++ [xs], rfl, by rw [List.map_append]; rfl, by rw [List.length_append, rl]; rfl, by rw [List.length_append, xl]; rfl, fun i r' xs' e1 e2 => ?_, fun i xs' e => ?_, rows_nd (I1 := H4) nd (by walk_at "om") rp (nw_of R4.out).1⟩)
      · have up : Same (rm acc (nw H2 I)) (rm acc (nw H2 I2)) := fun b o z => by
          obtain ⟨z1, z2⟩ := rm_of z
          obtain ⟨z3, z4⟩ := nw_of z2
          exact rm_at z1 (nw_at z3 (c2 _ _ z1 (s34 _ _ z4)))
        have new : Same (nw I H4) (rm acc (nw H2 I2)) := fun b o z => by
          obtain ⟨z3, z4⟩ := nw_of z
          have nb : b ≠ acc := fun w => by rw [w, hacc] at z3; cases z3
          exact rm_at nb (nw_at (s3.free z3) (c2 _ _ nb z4))
        rcases getElem?_snoc e1 with ⟨a1, a2⟩ | ⟨a1, rfl⟩
        · rcases getElem?_snoc e2 with ⟨b1, b2⟩ | ⟨b1, _⟩
          · exact (rp i r' xs' a2 b2).same up
          · omega
        · rcases getElem?_snoc e2 with ⟨b1, _⟩ | ⟨b1, rfl⟩
          · omega
          · exact R4.same new
      · rcases getElem?_snoc e with ⟨b1, b2⟩ | ⟨b1, rfl⟩
        · exact xp i xs' b2
        · rw [b1, xl]
          exact ⟨ri, xl1⟩
    · rintro acc ys σ I facc s3 hacc ⟨t, rs, xss, rfl, rfl, rl, xl, rp, xp, nd⟩
      rw [List.length_map, dl] at rl xl
      walk_at "wh"
      have left : Same (nw H2 I) (nw H I) := nw_left s2
      exact q acc rs xss I (s2.trans s3) ⟨left _ _ (nw_at facc hacc), by walk_at "om", fun i r xs e1 e2 => (rp i r xs e1 e2).same (Same.rm left), nd⟩ ⟨xl, xp⟩
-- @@split
/-! ### what a mix is, as the law looks -/
def goodP (d : PyData) : Bool := partD d && sizeD (numsD (planOf d)).sum (numsD (planOf d)).length
theorem mix_goodP {ds : List PyData} (h : mixD (.list ds) = true) : ∀ d ∈ ds, goodP d = true := by
  rw [mixD_list] at h
  simp only [Bool.and_eq_true, decide_eq_true_eq] at h
  obtain ⟨⟨⟨h0, h1⟩, h2⟩, h3⟩ := h
  intro d hd
  have h3 := List.all_eq_true.mp h3 _ hd
  unfold planD at h3
  simp only [Bool.and_eq_true, decide_eq_true_eq] at h3
  unfold goodP
  rw [List.all_eq_true.mp h1 d hd, h3.1.2, h3.2, h2]
  rfl
theorem mix_notgood {ds : List PyData} {d : PyData} (hd : d ∈ ds) (h : goodP d = false) : mixD (.list ds) = false := by
  cases e : mixD (.list ds)
  · rfl
  · rw [mix_goodP e d hd] at h; cases h
theorem goodP_no {d : PyData} (h : partD d = false) : goodP d = false := by unfold goodP; rw [h]; rfl
theorem all_false {ds : List PyData} {d : PyData} {g : PyData → Bool} (hd : d ∈ ds) (h : g d = false) : ds.all g = false := by
  cases e : ds.all g
  · rfl
  · rw [List.all_eq_true.mp e d hd] at h; cases h
def sizP (d : PyData) : Int × Int := (((numsD (planOf d)).length : Int), (numsD (planOf d)).sum)
theorem mix_sizes {ds : List PyData} (h0 : ds.length ≠ 0) (hg : ∀ d ∈ ds, goodP d = true) : mixD (.list ds) = (List.range ds.length).all fun i => decide ((sizP (ds.getD i .none)).1 = (sizP (ds.getD 0 .none)).1 ∧ (sizP (ds.getD i .none)).2 = (sizP (ds.getD 0 .none)).2) := by
  have gp : ∀ d ∈ ds, partD d = true ∧ sizeD (numsD (planOf d)).sum (numsD (planOf d)).length = true := fun d hd => by
    have := hg d hd
    unfold goodP at this
    rwa [Bool.and_eq_true] at this
  obtain ⟨d0, e0⟩ : ∃ d, ds[0]? = some d := ⟨_, List.getElem?_eq_getElem (by walk_at "om")⟩
  have fp : firstP ds = numsD (planOf d0) := by unfold firstP; rw [getD_some e0]
  rw [mixD_list, decide_eq_true h0, List.all_eq_true.mpr fun d hd => (gp d hd).1, fp, (gp d0 (List.mem_of_getElem? e0)).2, Bool.true_and, Bool.true_and, Bool.true_and, Bool.eq_iff_iff, List.all_eq_true, List.all_eq_true, getD_some e0]
  have pd : ∀ d ∈ ds, planD (numsD (planOf d0)).sum (numsD (planOf d0)).length (planOf d) = decide ((sizP d).1 = (sizP d0).1 ∧ (sizP d).2 = (sizP d0).2) := fun d hd => by
    obtain ⟨ns, w, rfl, nn, hw⟩ := partD_shape (gp d hd).1
    unfold planD sizP
    rw [numsD_plan]
    have : sendsD (planOf (.tuple [.list (ns.map PyData.int), .int w])) = true := by
      show (ns.map PyData.int).all (fromD 0) = true
      rw [List.all_map]
      exact List.all_eq_true.mpr fun x hx => decide_eq_true (nn x hx)
    rw [this, Bool.true_and, Bool.eq_iff_iff, Bool.and_eq_true, decide_eq_true_iff, decide_eq_true_iff, decide_eq_true_iff]
  constructor
  · intro h i hi
    have hi := List.mem_range.mp hi
    have := h _ (List.getElem_mem hi)
    rw [pd _ (List.getElem_mem hi)] at this
    rwa [List.getD_eq_getElem?_getD, List.getElem?_eq_getElem hi]
  · intro h d hd
    obtain ⟨i, ei⟩ := List.getElem?_of_mem hd
    have := h i (List.mem_range.mpr (List.getElem?_eq_some_iff.mp ei).1)
    rw [getD_some ei] at this
    rw [pd d hd]
    exact this
theorem mem_le_sumI : ∀ {ns : List Int}, (∀ x ∈ ns, 0 ≤ x) → (∀ x ∈ ns, x ≤ ns.sum) ∧ 0 ≤ ns.sum
  | [], _ => ⟨fun x h => by (cases h), Int.le_refl _⟩
  | n :: ns, h => by
    have h0 := h n (.head _)
    obtain ⟨i1, i2⟩ := mem_le_sumI (ns := ns) fun y hy => h y (.tail _ hy)
    rw [List.sum_cons]
    refine ⟨fun x hx => ?_, by walk_at "om"⟩
    rcases List.mem_cons.mp hx with rfl | hx
    · omega
    · have := i1 x hx; omega
@[irreducible] def sp__law_is_mix : Sp := fun vs H Q _ => ∃ (v : V) (d : PyData), vs = [v] ∧ ShV H v d ∧ sml d = true ∧ ∀ H', Same H H' → Q (.bl (mixD d)) H'
theorem mixL_rd {H : Hp} {v : V} {d : PyData} {Q : VK} {E : XK} (h : ShV H v d) (hs : sml d = true) (q : ∀ H', Same H H' → Q (.bl (mixD d)) H') : sp__law_is_mix [v] H Q E := by unfold sp__law_is_mix; exact ⟨v, d, rfl, h, hs, q⟩
theorem rep_flat {α : Type} (k : Nat) (x : α) : (List.replicate k [x]).flatten = List.replicate k x := by
  induction k with
  | zero => rfl
  | succ k ih => rw [List.replicate_succ, List.flatten_cons, ih, List.replicate_succ]; rfl
set_option maxHeartbeats 0 in
theorem ok__law_is_mix {f : Addr} {fd : FuncData} (F : Fun K "_law_is_mix" "_law_is_mix" s__law_is_mix f fd) (N : Nm mg) : FnOk P w K mg base CX0 1 f fd ["_law_mix_here"] sp__law_is_mix := by
  refine F.ok sc__law_is_mix (fun vs H Q E h => by unfold sp__law_is_mix at h; obtain ⟨_, _, rfl, _⟩ := h; rfl) (fun cdv A outer s H vs Q E hr h => ?_)
  unfold sp__law_is_mix at h
  obtain ⟨v, d, rfl, h, hs, q⟩ := h
  have hu := hu40 hr
  refine ⟨_, (pss_cons (psIf (ptW (pwOr (pt_not (ptV (pB (cIsiK (K := K) rfl) N.isinstance_ bt_isinstance (pa_cons (pq 0) (pa_cons (pTy N.list_ bt_list) pa_nil))))) (pw_or1 (ptC (oEqXK (K := K) rfl (by exact hu)) (pB (cLenK (K := K) rfl) N.len_ bt_len (pa_cons (pq 0) pa_nil)) pe_int)))) (pss_one (ps_ret pe_bl)) pss_nil)
      (pss_cons (psS (i := 1) sc__law_is_mix.nd (peLst pa_nil))
      (pss_cons (psFor PassesOwn.never rfl (piSeqK (K := K) rfl (pq 0)) (pg_name (i := 2) sc__law_is_mix.nd rfl (by first | exact Or.inl rfl | exact Or.inr rfl)) (pss_cons (psIf (ptW (pwOr (pt_not (ptV (pB (cIsiK (K := K) rfl) N.isinstance_ bt_isinstance (pa_cons (pq 2) (pa_cons (pTy N.tuple_ bt_tuple) pa_nil))))) (pwOr (ptC (oNeXK (K := K) rfl (by exact hu)) (pB (cLenK (K := K) rfl) N.len_ bt_len (pa_cons (pq 2) pa_nil)) pe_int) (pw_or1 (pt_not (ptV (pB (cIsiK (K := K) rfl) N.isinstance_ bt_isinstance (pa_cons (peIxK (K := K) rfl (pq 2) pe_int) (pa_cons (pTy N.list_ bt_list) pa_nil))))))))) (pss_one (ps_ret pe_bl)) pss_nil)
      (pss_cons (psFor PassesOwn.never rfl (piSeqK (K := K) rfl (pe_op oAdd (peIxK (K := K) rfl (pq 2) pe_int) (peLst (pa_cons (peIxK (K := K) rfl (pq 2) pe_int) pa_nil)))) (pg_name (i := 3) sc__law_is_mix.nd rfl (by first | exact Or.inl rfl | exact Or.inr rfl)) (pss_one (psIf (ptW (pwOr (ptV (pB (cIsiK (K := K) rfl) N.isinstance_ bt_isinstance (pa_cons (pq 3) (pa_cons (pTy N.bool_ bt_bool) pa_nil)))) (pwOr (pt_not (ptV (pB (cIsiK (K := K) rfl) N.isinstance_ bt_isinstance (pa_cons (pq 3) (pa_cons (pTy N.int_ bt_int) pa_nil))))) (pw_or1 (ptC (oLtX (by exact hu)) (pq 3) pe_int))))) (pss_one (ps_ret pe_bl)) pss_nil)))
      (pss_cons (psIf (ptW (pwOr (ptC (oLtX (by exact hu)) (peIxK (K := K) rfl (pq 2) pe_int) pe_int) (pwOr (ptC (oLtX (by exact hu)) (pB (cLenK (K := K) rfl) N.len_ bt_len (pa_cons (peIxK (K := K) rfl (pq 2) pe_int) pa_nil)) pe_int) (pwOr (ptC oGt (pB (cLenK (K := K) rfl) N.len_ bt_len (pa_cons (peIxK (K := K) rfl (pq 2) pe_int) pa_nil)) pe_int) (pw_or1 (ptC oGt (pB (cSumK (K := K) rfl rfl) N.sum_ bt_sum (pa_cons (peIxK (K := K) rfl (pq 2) pe_int) pa_nil)) pe_int)))))) (pss_one (ps_ret pe_bl)) pss_nil)
      (pss_one (ps_expr (peM_append (pq 1) (pa_cons (peTup (pa_cons (pB (cLenK (K := K) rfl) N.len_ bt_len (pa_cons (peIxK (K := K) rfl (pq 2) pe_int) pa_nil)) (pa_cons (pB (cSumK (K := K) rfl rfl) N.sum_ bt_sum (pa_cons (peIxK (K := K) rfl (pq 2) pe_int) pa_nil)) pa_nil))) pa_nil))))))))
      (pss_one (ps_ret (peC (oEqXK (K := K) rfl (by exact hu)) (pq 1) (pe_op oMul (peLst (pa_cons (peIxK (K := K) rfl (pq 1) pe_int) pa_nil)) (pB (cLenK (K := K) rfl) N.len_ bt_len (pa_cons (pq 1) pa_nil))))))))), ?_⟩
  refine isiD_rd' h (.inr (.inr (.inl rfl))) ?_
  cases h
  case lst a xs ds e l =>
    have ll := l.len
    obtain ⟨dl, dm⟩ := sml_len hs
    refine br_not (br_T ?_)
    refine lenL_rd e ?_
    rw [ll]
    refine br_dec (fun h0 => ?_) (fun h0 => ?_)
    · have q := q _ (Same.refl _)
      rw [mixD_list, decide_eq_false (by walk_at "om")] at q
      walk_at "wh"
      exact q
    have d0 : ds.length ≠ 0 := by walk_at "om"
    refine newL_rd (fun z H1 f1 s1 h1 => ?_)
    refine iterL_rd (s1 _ _ e) ?_
    refine loop_list (xs := xs) (fun j σ I => ∃ (t u : Option V) (zs : List Addr), σ = [some (.ref a), some (.ref z), t, u] ∧ Same H I ∧ I z = some (.lst (zs.map V.ref)) ∧ zs.length = j ∧ (∀ d ∈ ds.take j, goodP d = true) ∧ ∀ (i : Nat) p d, zs[i]? = some p → ds[i]? = some d → I p = some (.tup [.int (sizP d).1, .int (sizP d).2]) ∧ p ≠ z) ?_ ?_ ?_ ?_
    · exact ⟨_, _, [], rfl, s1, h1, rfl, fun d hd => by simp at hd, fun i p d e => by simp at e⟩
    · rintro j σ I _ ⟨_, _, _, _, s2, _⟩
      exact SqL.of (s2 _ _ e)
    · rintro j x σ I hx ⟨t, u, zs, rfl, s2, hz, zl, gd, zp⟩
      obtain ⟨d, ed, hd0⟩ := l.get j x hx
      have hd := hd0.same s2
      have md := dm d (List.mem_of_getElem? ed)
      have bad : goodP d = false → ∀ I', Same I I' → Q (.bl false) I' := fun hb I' s' => by
        have q := q _ (s2.trans s')
        rw [mix_notgood (List.mem_of_getElem? ed) hb] at q
        exact q
      refine isiD_rd' hd (.inr (.inr (.inr rfl))) ?_
      cases hd
      case tup pt ys es ep lp =>
        have lpl := lp.len
        refine br_not (br_T ?_)
        refine lenT_rd ep ?_
        refine br_not (br_dec (fun h2 => ?_) (fun h2 => ?_))
        rotate_left
        · walk_at "wh"
          refine br_T ?_
          walk_at "wh"
          exact bad (goodP_no (partD_no (by walk_at "om"))) _ (Same.refl _)
        obtain ⟨y0, y1, b0, b1, rfl, rfl, hb0, hb1⟩ := shl_two lp (by walk_at "om")
        have mb0 := (smlT_len md).2 b0 (by simp)
        refine ixT_rd (v := y0) ep rfl ?_
        refine isiD_rd' hb0 (.inr (.inr (.inl rfl))) ?_
        cases hb0
        case lst pl ws cs el lc =>
          have lcl := lc.len
          obtain ⟨cl, cm⟩ := sml_len mb0
          refine br_not (br_T ?_)
          refine ixT_rd (v := .ref pl) ep rfl ?_
          refine ixT_rd (v := y1) ep rfl ?_
          refine newL_rd (fun p3 I3 f3 s3 h3 => ?_)
          refine cat_rd (s3 _ _ el) h3 (by rw [List.length_singleton, sizeLine_eq]; omega) (fun p4 I4 f4 s4 h4 => ?_)
          have s34 := s3.trans s4
          have sl4 : ShL I4 (ws ++ [y1]) (cs ++ [b1]) := shl_app (lc.same s34) (.cons (hb1.same s34) .nil)
          refine iterL_rd h4 ?_
          refine loop_list (xs := ws ++ [y1]) (fun k σ J => ∃ t : Option V, σ = [some (.ref a), some (.ref z), some (.ref pt), t] ∧ J = I4 ∧ ∀ c ∈ (cs ++ [b1]).take k, fromD 0 c = true) ?_ ?_ ?_ ?_
          · exact ⟨_, rfl, rfl, fun c hc => by simp at hc⟩
          · rintro k σ J _ ⟨_, _, rfl, _⟩
            exact SqL.of h4
          · rintro k w σ J hw ⟨t, rfl, rfl, fc⟩
            obtain ⟨c, ec, hc⟩ := sl4.get k w hw
            have badc : fromD 0 c = false → ∀ I', Same J I' → Q (.bl false) I' := fun hb I' s' => by
              refine bad (goodP_no ?_) _ (s34.trans s')
              show (cs.all (fromD 0) && fromD 1 b1) = false
              rcases List.mem_append.mp (List.mem_of_getElem? ec) with hm | hm
              · rw [all_false hm hb]; rfl
              · have : c = b1 := by simpa using hm
                subst this
                have : fromD 1 c = false := by
                  cases e1 : fromD 1 c
                  · rfl
                  · obtain ⟨i, rfl, hi⟩ := fromD_int e1
                    have : fromD 0 (.int i) = true := decide_eq_true (by walk_at "om")
                    rw [hb] at this; cases this
                rw [this, Bool.and_false]
            have next : fromD 0 c = true → ∀ c' ∈ (cs ++ [b1]).take (k + 1), fromD 0 c' = true := fun hg c' hc' => by
              rw [List.take_succ, ec] at hc'
              rcases List.mem_append.mp hc' with hm | hm
              · exact fc c' hm
              · have : c' = c := by simpa using hm
                rw [this]; exact hg
            refine isiD_rd' hc (.inr (.inl rfl)) ?_
            cases hc
            case int i =>
              refine br_F ?_
              refine isiI_rd ?_
              refine br_not (br_T ?_)
              refine br_dec (fun hi => ?_) (fun hi => ?_)
              · walk_at "wh"
                exact badc (decide_eq_false (by walk_at "om")) _ (Same.refl _)
              · walk_at "wh"
                exact ⟨_, rfl, rfl, next (decide_eq_true (by walk_at "om"))⟩
            case bl bb =>
              refine br_T ?_
              walk_at "wh"
              first | refine br_T ?_ | skip
              walk_at "wh"
              exact badc rfl _ (Same.refl _)
            case lst a' xs' ds' e' l' =>
              refine br_F ?_
              refine isiD_rd' (.lst e' l') (.inl rfl) ?_
              refine br_not (br_F ?_)
              refine br_T ?_
              walk_at "wh"
              exact badc rfl _ (Same.refl _)
            case tup a' xs' ds' e' l' =>
              refine br_F ?_
              refine isiD_rd' (.tup e' l') (.inl rfl) ?_
              refine br_not (br_F ?_)
              refine br_T ?_
              walk_at "wh"
              exact badc rfl _ (Same.refl _)
            case non =>
              refine br_F ?_
              refine isiN_rd ?_ (by rfl)
              refine br_not (br_F ?_)
              refine br_T ?_
              walk_at "wh"
              exact badc rfl _ (Same.refl _)
            case str x' =>
              refine br_F ?_
              refine isiS_rd ?_ (by rfl)
              refine br_not (br_F ?_)
              refine br_T ?_
              walk_at "wh"
              exact badc rfl _ (Same.refl _)
          · rintro σ J ⟨t, rfl, rfl, fc⟩
            rw [sl4.len, List.take_length] at fc
            obtain ⟨w, rfl, hw0⟩ := fromD_int (fc b1 (by simp))
            obtain ⟨ns, rfl, rfl, nn⟩ := shl_ints lc fun c hc => fc c (List.mem_append_left _ hc)
            have ep4 := s34 _ _ ep
            have el4 := s34 _ _ el
            cases hb1
            have np : numsD (planOf (.tuple [.list (ns.map PyData.int), .int w])) = ns := numsD_plan ns w
            have pe : goodP (.tuple [.list (ns.map PyData.int), .int w]) = (fromD 1 (.int w) && sizeD ns.sum ns.length) := by
              unfold goodP
              rw [np]
              show ((ns.map PyData.int).all (fromD 0) && fromD 1 (.int w) && _) = _
              rw [List.all_map, show ns.all (fromD 0 ∘ PyData.int) = true from List.all_eq_true.mpr fun x hx => decide_eq_true (nn x hx), Bool.true_and]
            have n0 : 0 ≤ ns.sum := (mem_le_sumI nn).2
            refine ixT_rd (v := .int w) ep4 rfl ?_
            refine br_dec (fun hw1 => ?_) (fun hw1 => ?_)
            · walk_at "wh"
              first | refine br_T ?_ | skip
              walk_at "wh"
              refine bad ?_ _ s34
              rw [pe]
              show (decide ((1 : Int) ≤ w) && _) = false
              rw [decide_eq_false (by walk_at "om")]; rfl
            refine ixT_rd (v := .ref pl) ep4 rfl ?_
            refine lenL_rd el4 ?_
            rw [List.length_map]
            refine br_dec (fun hl1 => ?_) (fun hl1 => ?_)
            · walk_at "wh"
              first | refine br_T ?_ | skip
              walk_at "wh"
              refine bad ?_ _ s34
              rw [pe]
              unfold sizeD
              rw [decide_eq_false (show ¬ ((1 : Int) ≤ (ns.length : Int) ∧ (ns.length : Int) ≤ 8) by walk_at "om"), Bool.and_false, Bool.and_false]
            refine ixT_rd (v := .ref pl) ep4 rfl ?_
            refine lenL_rd el4 ?_
            rw [List.length_map]
            refine br_dec (fun hl2 => ?_) (fun hl2 => ?_)
            · walk_at "wh"
              first | refine br_T ?_ | skip
              walk_at "wh"
              refine bad ?_ _ s34
              rw [pe]
              unfold sizeD
              rw [decide_eq_false (show ¬ ((1 : Int) ≤ (ns.length : Int) ∧ (ns.length : Int) ≤ 8) by walk_at "om"), Bool.and_false, Bool.and_false]
            refine ixT_rd (v := .ref pl) ep4 rfl ?_
            refine sum_rd el4 ?_
            refine br_dec (fun hs1 => ?_) (fun hs1 => ?_)
            · walk_at "wh"
              first | refine br_T ?_ | skip
              walk_at "wh"
              refine bad ?_ _ s34
              rw [pe]
              unfold sizeD
              rw [decide_eq_false (show ¬ (0 ≤ ns.sum ∧ ns.sum ≤ 40) by walk_at "om"), Bool.false_and, Bool.and_false]
            have good : goodP (.tuple [.list (ns.map PyData.int), .int w]) = true := by
              rw [pe]
              unfold sizeD
              rw [decide_eq_true (show (0 ≤ ns.sum ∧ ns.sum ≤ 40) by walk_at "om"), decide_eq_true (show ((1 : Int) ≤ (ns.length : Int) ∧ (ns.length : Int) ≤ 8) by walk_at "om")]
              show (decide ((1 : Int) ≤ w) && _) = true
              rw [decide_eq_true (by walk_at "om")]; rfl
            have hz4 := s34 _ _ hz
            refine lst_is hz4 ?_
            refine ixT_rd (v := .ref pl) ep4 rfl ?_
            refine lenL_rd el4 ?_
            rw [List.length_map]
            refine ixT_rd (v := .ref pl) ep4 rfl ?_
            refine sum_rd el4 ?_
            refine newT_rd (fun p5 I5 f5 s5 h5 => ?_)
            have hz5 := s5 _ _ hz4
            refine app_rd hz5 (by rw [List.length_map, sizeLine_eq]; have := (List.getElem?_eq_some_iff.mp ed).1; omega) (fun I6 c6 h6 => ?_)
            walk_at "wh"
            have s25 := (s2.trans s34).trans s5
            have n5 : p5 ≠ z := Ne.symm (ne_of_none hz4 f5)
            refine ⟨_, _, zs ++ [p5], rfl, s25.chg f1 c6, by rw [h6, List.map_append]; rfl, by rw [List.length_append, zl]; rfl, fun d' hd' => ?_, fun i p d' g1 g2 => ?_⟩
            · rw [List.take_succ, ed] at hd'
              rcases List.mem_append.mp hd' with hm | hm
              · exact gd d' hm
              · have : d' = .tuple [.list (ns.map PyData.int), .int w] := by simpa using hm
                rw [this]; exact good
            · rcases getElem?_snoc g1 with ⟨a1, a2⟩ | ⟨a1, rfl⟩
              · obtain ⟨w1, w2⟩ := zp i p d' a2 g2
                exact ⟨c6 _ _ w2 (s5 _ _ (s34 _ _ w1)), w2⟩
              · have : i = j := by walk_at "om"
                subst this
                rw [ed] at g2
                cases g2
                refine ⟨?_, n5⟩
                have e6 := c6 _ _ n5 h5
                unfold sizP
                rw [np]
                exact e6
        all_goals
          refine br_not (br_F ?_)
          walk_at "wh"
          refine bad (goodP_no ?_) _ (Same.refl _)
          rfl
      all_goals
        refine br_not (br_F ?_)
        refine br_T ?_
        walk_at "wh"
        exact bad (goodP_no rfl) _ (Same.refl _)
    · rintro σ I ⟨t, u, zs, rfl, s2, hz, zl, gd, zp⟩
      rw [ll] at zl gd
      rw [List.take_length] at gd
      have ms := mix_sizes d0 gd
      obtain ⟨z0, ez0⟩ : ∃ z, zs[0]? = some z := ⟨_, List.getElem?_eq_getElem (by walk_at "om")⟩
      obtain ⟨dd0, ed0⟩ : ∃ z, ds[0]? = some z := ⟨_, List.getElem?_eq_getElem (by walk_at "om")⟩
      have hz0 := (zp 0 z0 dd0 ez0 ed0).1
      refine ixL_rd (v := .ref z0) hz (ref_at (i := 0) (by walk_at "om") ez0) ?_
      refine newL_rd (fun p3 I3 f3 s3 h3 => ?_)
      refine lenL_rd (s3 _ _ hz) ?_
      rw [List.length_map]
      refine rep_rd h3 (by walk_at "om") (by walk_at "om") (by rw [sizeLine_eq, List.length_singleton]; omega) (fun p4 I4 f4 s4 h4 => ?_)
      rw [rep_flat, Int.toNat_natCast] at h4
      have s34 := s3.trans s4
      refine eqX_rd (n := 2) (EqR.lst (n := 1) (fun i => decide ((sizP (ds.getD i .none)).1 = (sizP (ds.getD 0 .none)).1 ∧ (sizP (ds.getD i .none)).2 = (sizP (ds.getD 0 .none)).2)) (SqL.of (s34 _ _ hz)) (SqL.of h4) (by rw [List.length_map, List.length_replicate]) fun i x y e1 e2 => ?_) ?_
      · rw [List.getElem?_map] at e1
        obtain ⟨p, ep, rfl⟩ := Option.map_eq_some_iff.mp e1
        have il := (List.getElem?_eq_some_iff.mp ep).1
        rw [List.getElem?_replicate, if_pos (by walk_at "om")] at e2
        cases e2
        obtain ⟨di, edi⟩ : ∃ z, ds[i]? = some z := ⟨_, List.getElem?_eq_getElem (by walk_at "om")⟩
        rw [getD_some edi, getD_some ed0]
        exact EqR.ints2 (s34 _ _ (zp i p di ep edi).1) (s34 _ _ hz0)
      have q := q _ (s2.trans s34)
      rw [ms] at q
      rw [List.length_map, zl]
      walk_at "wh"
      exact q
  all_goals (walk_at "wh"; refine br_not (br_F ?_); walk_at "wh"; refine br_T ?_; walk_at "wh"; exact q _ (Same.refl _))
-- @@split
@[irreducible] def sp__law_refused : Sp := fun vs H Q _ => ∃ (v : V) (d : PyData), vs = [v] ∧ ShV H v d ∧ sml d = true ∧ mixD d = false ∧ ∀ H', Same H H' → Q (.bl true) H'
theorem refused_rd {H : Hp} {v : V} {d : PyData} {Q : VK} {E : XK} (h : ShV H v d) (hs : sml d = true) (eg : mixD d = false) (q : ∀ H', Same H H' → Q (.bl true) H') : sp__law_refused [v] H Q E := by unfold sp__law_refused; exact ⟨v, d, rfl, h, hs, eg, q⟩
theorem ok__law_refused {f : Addr} {fd : FuncData} (F : Fun K "_law_refused" "_law_refused" s__law_refused f fd) (N : Nm mg) (D_stream_of : Def P w K mg base (CXR P w) 7 "stream_of" ["mix"] (sp_stream_of a_NoMix)) (Z : Cz K mg base a_HostError a_NoBattle a_NoPlan a_NoMix a_NoStream a_NoSide a_NoAlike a_NoNumber) : FnOk P w K mg base CX0 8 f fd ["_law_mix_here"] sp__law_refused := by
  refine F.ok sc__law_refused (fun vs H Q E h => by unfold sp__law_refused at h; obtain ⟨_, _, rfl, _⟩ := h; rfl) (fun cdv A outer s H vs Q E hr h => ?_)
  unfold sp__law_refused at h
  obtain ⟨v, d, rfl, h, hs, eg, q⟩ := h
  have hu := hu40 hr
  refine ⟨_, (pss_cons (psS (i := 1) sc__law_refused.nd pe_non)
      (pss_cons (psTry (K := K) (ke := 2) (ky := 1) rfl sc__law_refused.nd Z.g_HostError (psxOne (psxCall D_stream_of hr (pa_cons (pq 0) pa_nil))))
      (pss_cons (psIf (ptV (pB (cIsiC (K := K) rfl) N.isinstance_ bt_isinstance (pa_cons (pq 1) (pa_cons (peTup (pa_cons (pe_glob (v := .ref a_NoAlike) rfl Z.g_NoAlike rfl) (pa_cons (pe_glob (v := .ref a_NoBattle) rfl Z.g_NoBattle rfl) (pa_cons (pe_glob (v := .ref a_NoNumber) rfl Z.g_NoNumber rfl) (pa_cons (pe_glob (v := .ref a_NoPlan) rfl Z.g_NoPlan rfl) (pa_cons (pe_glob (v := .ref a_NoSide) rfl Z.g_NoSide rfl) (pa_cons (pe_glob (v := .ref a_NoStream) rfl Z.g_NoStream rfl) pa_nil))))))) pa_nil)))) (pss_one (ps_ret pe_bl)) pss_nil)
      (pss_one (ps_ret (peAnd (pB (cIsiX (K := K) rfl) N.isinstance_ bt_isinstance (pa_cons (pq 1) (pa_cons (pe_glob (v := .ref a_NoMix) rfl Z.g_NoMix rfl) pa_nil))) (pe_one (pB (cIsiX (K := K) rfl) N.isinstance_ bt_isinstance (pa_cons (pq 1) (pa_cons (pTy N.ValueError_ bt_ValueError) pa_nil)))))))))), ?_⟩
  refine stream_of_rd h hs (fun z => by rw [eg] at z; cases z) (fun _ H1 s1 => catch_rd Z.m_NoMix (fun ea H2 f2 s2 h2 => ?_))
  refine newT_rd (fun p3 H3 f3 s3 h3 => ?_)
  have h23 := s3 _ _ h2
  refine isiC_rd (cs := [a_NoAlike, a_NoBattle, a_NoNumber, a_NoPlan, a_NoSide, a_NoStream]) h3 (.inl h23) Z.k_NoMix Z.c_NoMix (fun c hc => ?_) ?_
  · simp only [List.mem_cons, List.not_mem_nil, or_false] at hc
    rcases hc with rfl | rfl | rfl | rfl | rfl | rfl
    · exact Z.i_NoMix_NoAlike
    · exact Z.i_NoMix_NoBattle
    · exact Z.i_NoMix_NoNumber
    · exact Z.i_NoMix_NoPlan
    · exact Z.i_NoMix_NoSide
    · exact Z.i_NoMix_NoStream
  refine br_F ?_
  refine isiE_rd (D := a_NoMix) h23 Z.k_NoMix Z.c_NoMix Z.i_NoMix_NoMix ?_
  refine br_T ?_
  refine isiET_rd (D := a_NoMix) h23 Z.k_NoMix Z.c_NoMix Z.v_NoMix ?_
  walk_at "wh"
  exact q _ ((s1.trans s2).trans s3)
-- @@split
/-! ### things of any kind that can be held against one another -/
def okD (n : Nat) (d : PyData) : Prop := sml d = true ∧ d.canLay0 = true ∧ d.depth ≤ n
def Rd (H : Hp) (v : V) (n : Nat) : Prop := ∃ d, ShV H v d ∧ okD n d ∧ (itemsD d).length < 60
theorem Rd.same {H H' : Hp} {v : V} {n : Nat} (h : Rd H v n) (s : Same H H') : Rd H' v n := by obtain ⟨d, h1, h2⟩ := h; exact ⟨d, h1.same s, h2⟩
theorem okD.up {n m : Nat} {d : PyData} (h : okD n d) (l : n ≤ m) : okD m d := ⟨h.1, h.2.1, Nat.le_trans h.2.2 l⟩
theorem Rd.up {H : Hp} {v : V} {n m : Nat} (h : Rd H v n) (l : n ≤ m := by decide) : Rd H v m := by obtain ⟨d, h1, h2⟩ := h; exact ⟨d, h1, h2.1.up l, h2.2⟩
theorem Rd.int {H : Hp} (i : Int) (n : Nat) : Rd H (.int i) n := ⟨.int i, .int i, ⟨rfl, rfl, Nat.zero_le _⟩, by show (0 : Nat) < 60; decide⟩
theorem Rd.bl {H : Hp} (b : Bool) (n : Nat) : Rd H (.bl b) n := ⟨.bool b, .bl b, ⟨rfl, rfl, Nat.zero_le _⟩, by show (0 : Nat) < 60; decide⟩
theorem Rd.non {H : Hp} (n : Nat) : Rd H .non n := ⟨.none, .non, ⟨rfl, rfl, Nat.zero_le _⟩, by show (0 : Nat) < 60; decide⟩
theorem Rd.str {H : Hp} {x : Str} (n : Nat) (h : PyData.strOk x = true) : Rd H (.str x) n := ⟨.str x, .str x, ⟨rfl, h, Nat.zero_le _⟩, by show (0 : Nat) < 60; decide⟩
theorem canAll {ds : List PyData} (h : ∀ d ∈ ds, d.canLay0 = true) : PyData.canLayAll0 ds = true := by
  induction ds with
  | nil => rfl
  | cons d ds ih =>
    show (d.canLay0 && PyData.canLayAll0 ds) = true
    rw [h d (.head _), ih fun x hx => h x (.tail _ hx)]; rfl
theorem canAll_mem : ∀ {ds : List PyData}, PyData.canLayAll0 ds = true → ∀ d ∈ ds, d.canLay0 = true
  | [], _, d, h => by cases h
  | e :: ds, h, d, hd => by
    have h : (e.canLay0 && PyData.canLayAll0 ds) = true := h
    rw [Bool.and_eq_true] at h
    rcases List.mem_cons.mp hd with rfl | hd
    · exact h.1
    · exact canAll_mem h.2 d hd
theorem depAll {ds : List PyData} {n : Nat} (h : ∀ d ∈ ds, d.depth ≤ n) : PyData.depthAll ds ≤ n := by
  induction ds with
  | nil => exact Nat.zero_le _
  | cons d ds ih =>
    rw [show PyData.depthAll (d :: ds) = max d.depth (PyData.depthAll ds) from rfl]
    exact Nat.max_le.mpr ⟨h d (.head _), ih fun x hx => h x (.tail _ hx)⟩
theorem okD.list {n : Nat} {ds : List PyData} (l : ds.length ≤ 1000) (h : ∀ d ∈ ds, okD n d) : okD (n + 1) (.list ds) :=
  ⟨by simp only [sml, Bool.and_eq_true, decide_eq_true_eq]; exact ⟨by walk_at "om", smlAll_of fun d hd => (h d hd).1⟩, canAll fun d hd => (h d hd).2.1, Nat.succ_le_succ (depAll fun d hd => (h d hd).2.2)⟩
theorem okD.tuple {n : Nat} {ds : List PyData} (l : ds.length ≤ 1000) (h : ∀ d ∈ ds, okD n d) : okD (n + 1) (.tuple ds) :=
  ⟨by simp only [sml, Bool.and_eq_true, decide_eq_true_eq]; exact ⟨by walk_at "om", smlAll_of fun d hd => (h d hd).1⟩, canAll fun d hd => (h d hd).2.1, Nat.succ_le_succ (depAll fun d hd => (h d hd).2.2)⟩
theorem Rd.lst {H : Hp} {a : Addr} {xs : List V} {n : Nat} (e : H a = some (.lst xs)) (l : xs.length < 60) (h : ∀ x ∈ xs, Rd H x n) : Rd H (.ref a) (n + 1) := by
  obtain ⟨ds, h1, h2⟩ := ShL.ex (P := fun d => okD n d) fun x hx => by obtain ⟨d, h1, h2, _⟩ := h x hx; exact ⟨d, h1, h2⟩
  exact ⟨.list ds, .lst e h1, okD.list (by rw [← h1.len]; omega) h2, by show ds.length < 60; rw [← h1.len]; exact l⟩
theorem Rd.tup {H : Hp} {a : Addr} {xs : List V} {n : Nat} (e : H a = some (.tup xs)) (l : xs.length < 60) (h : ∀ x ∈ xs, Rd H x n) : Rd H (.ref a) (n + 1) := by
  obtain ⟨ds, h1, h2⟩ := ShL.ex (P := fun d => okD n d) fun x hx => by obtain ⟨d, h1, h2, _⟩ := h x hx; exact ⟨d, h1, h2⟩
  exact ⟨.tuple ds, .tup e h1, okD.tuple (by rw [← h1.len]; omega) h2, by show (0 : Nat) < 60; decide⟩
theorem Rd.two {H : Hp} {a : Addr} {u v : V} {n : Nat} (e : H a = some (.tup [u, v])) (hu : Rd H u n) (hv : Rd H v n) : Rd H (.ref a) (n + 1) := Rd.tup e (by show 2 < 60; decide) fun x hx => by
  simp only [List.mem_cons, List.not_mem_nil, or_false] at hx
  rcases hx with rfl | rfl
  · exact hu
  · exact hv
theorem Rd.ints {H : Hp} {a : Addr} {ns : List Int} (e : H a = some (.lst (ns.map V.int))) (l : ns.length < 60) : Rd H (.ref a) 1 := Rd.lst (n := 0) e (by rw [List.length_map]; exact l) fun x hx => by
  obtain ⟨i, _, rfl⟩ := List.mem_map.mp hx
  exact Rd.int i 0
theorem MixAt.rd {H : Hp} {m : Addr} {ts : List (Addr × Addr)} {ms : List (List Int × Int)} (M : MixAt H m ts ms) (h : ∀ x ∈ ms, x.1.length < 60) : ∀ x ∈ (ts.map fun t => V.ref t.1), Rd H x 2 := fun x hx => by
  obtain ⟨i, hi⟩ := List.getElem?_of_mem hx
  obtain ⟨t, y, rfl, e1, e2, e3, e4⟩ := M.elt hi
  exact Rd.two e3 (Rd.ints e4 (h y (List.mem_of_getElem? e2))) (Rd.int _ _)
theorem eqv_refl : ∀ {n : Nat} {d : PyData}, d.depth ≤ n → d.canLay0 = true → d.eqv d = true
  | _, .none, _, _ => rfl
  | _, .bool b, _, _ => by show (b == b) = true; exact beq_self_eq_true _
  | _, .int i, _, _ => by show (i == i) = true; exact beq_self_eq_true _
  | _, .str x, _, _ => by show (x == x) = true; exact beq_self_eq_true _
  | 0, .list ds, h, _ => by have h : PyData.depthAll ds + 1 ≤ 0 := h; omega
  | 0, .tuple ds, h, _ => by have h : PyData.depthAll ds + 1 ≤ 0 := h; omega
  | n + 1, .list ds, h, c => by
    have h : PyData.depthAll ds + 1 ≤ n + 1 := h
    have c : PyData.canLayAll0 ds = true := c
    show PyData.eqvAll ds ds = true
    exact all ds (fun d hd => eqv_refl (n := n) (Nat.le_trans (depth_mem hd) (by walk_at "om")) (canAll_mem c d hd))
  | n + 1, .tuple ds, h, c => by
    have h : PyData.depthAll ds + 1 ≤ n + 1 := h
    have c : PyData.canLayAll0 ds = true := c
    show PyData.eqvAll ds ds = true
    exact all ds (fun d hd => eqv_refl (n := n) (Nat.le_trans (depth_mem hd) (by walk_at "om")) (canAll_mem c d hd))
  | _, .dict _, _, c => by cases (show false = true from c)
where all : ∀ ds : List PyData, (∀ d ∈ ds, d.eqv d = true) → PyData.eqvAll ds ds = true
  | [], _ => rfl
  | d :: ds, h => by
    show (d.eqv d && PyData.eqvAll ds ds) = true
    rw [h d (.head _), all ds fun x hx => h x (.tail _ hx)]; rfl
theorem okD.eqv {n : Nat} {d : PyData} (h : okD n d) : d.eqv d = true := eqv_refl h.2.2 h.2.1
local macro_rules | `(tactic| walk_at "rd") => `(tactic| first | assumption | (refine Rd.same (H := ?H) ?r ?s; (case s => assumption); (case r => walk_at "rd")) | fail "rd")
-- @@split
/-! ### a mix bent: what comes out can be read -/
theorem cut_mem {xs : List V} {lo hi : Option Int} {x : V} (h : x ∈ cutV xs lo hi) : x ∈ xs := by
  unfold cutV at h
  exact List.mem_of_mem_drop (List.mem_of_mem_take h)
theorem cut_len {xs : List V} {lo hi : Option Int} : (cutV xs lo hi).length ≤ xs.length := by
  unfold cutV
  rw [List.length_take, List.length_drop]
  omega
theorem ints_cut {ns : List Int} {lo hi : Option Int} : ∀ x ∈ cutV (ns.map V.int) lo hi, ∃ i, x = .int i := fun x hx => by
  obtain ⟨i, _, rfl⟩ := List.mem_map.mp (cut_mem hx)
  exact ⟨i, rfl⟩
@[irreducible] def sp__law_bent : Sp := fun vs H Q _ => ∃ (a m : Addr) (b : Int) (ts : List (Addr × Addr)) (ms : List (List Int × Int)), vs = [.ref a, .ref m] ∧ LeftAt H a b ∧ b ≤ 10000 ∧ MixAt H m ts ms ∧ m ≠ a ∧ Off a ts ∧ (1 ≤ ms.length ∧ ms.length ≤ 8) ∧ (∀ x ∈ ms, 1 ≤ x.1.length ∧ x.1.length ≤ 8) ∧ ∀ v H', Chg a H H' → Rd H' v 5 → Q v H'
theorem bent_rd {H : Hp} {a m : Addr} {b : Int} {ts : List (Addr × Addr)} {ms : List (List Int × Int)} {Q : VK} {E : XK} (hL : LeftAt H a b) (hb : b ≤ 10000) (M : MixAt H m ts ms) (n : m ≠ a) (o : Off a ts) (hl : 1 ≤ ms.length ∧ ms.length ≤ 8) (hx : ∀ x ∈ ms, 1 ≤ x.1.length ∧ x.1.length ≤ 8) (q : ∀ v H', Chg a H H' → Rd H' v 5 → Q v H') : sp__law_bent [.ref a, .ref m] H Q E := by
  unfold sp__law_bent; exact ⟨a, m, b, ts, ms, rfl, hL, hb, M, n, o, hl, hx, q⟩
set_option maxHeartbeats 0 in
theorem ok__law_bent {f : Addr} {fd : FuncData} (F : Fun K "_law_bent" "_law_bent" s__law_bent f fd) (N : Nm mg) (D__law_draw : Def P w K mg base CX0 2 "_law_draw" ["_law_left_here", "_law_base"] sp__law_draw) : FnOk P w K mg base CX0 3 f fd ["_law_left_here", "_law_mix_here"] sp__law_bent := by
  refine F.ok sc__law_bent (fun vs H Q E h => by unfold sp__law_bent at h; obtain ⟨_, _, _, _, _, rfl, _⟩ := h; rfl) (fun cdv A outer s H vs Q E hr h => ?_)
  unfold sp__law_bent at h
  obtain ⟨a, m, b, ts, ms, rfl, hL, hb, M, na, oa, ⟨ml1, ml2⟩, hx, q⟩ := h
  have hu := hu40 hr
  have tl := M.len
  refine ⟨_, (pss_cons (psS (i := 2) sc__law_bent.nd (pD D__law_draw hr pass0 (pa_cons (pq 0) (pa_cons (pB (cLenK (K := K) rfl) N.len_ bt_len (pa_cons (pq 1) pa_nil)) pa_nil))))
      (pss_cons (ps_asg (peIxK (K := K) rfl (pq 1) (pq 2)) (pgAnyK (K := K) (n := 2) rfl rfl (pgsCons (pg_name (i := 3) sc__law_bent.nd rfl (by first | exact Or.inl rfl | exact Or.inr rfl)) (pgsCons (pg_name (i := 4) sc__law_bent.nd rfl (by first | exact Or.inl rfl | exact Or.inr rfl)) pgsNil))))
      (pss_cons (psS (i := 5) sc__law_bent.nd (pD D__law_draw hr pass0 (pa_cons (pq 0) (pa_cons (pB (cLenK (K := K) rfl) N.len_ bt_len (pa_cons (pq 3) pa_nil)) pa_nil))))
      (pss_cons (psS (i := 6) sc__law_bent.nd (pD D__law_draw hr pass0 (pa_cons (pq 0) (pa_cons pe_int pa_nil))))
      (pss_cons (psS (i := 7) sc__law_bent.nd (peLst (pa_cons (peTup (pa_cons (pq 3) (pa_cons pe_int pa_nil))) (pa_cons (peTup (pa_cons (pq 3) (pa_cons (pe_un uNeg pe_int) pa_nil))) (pa_cons (peTup (pa_cons (pq 3) (pa_cons pe_bl pa_nil))) (pa_cons (peTup (pa_cons (pq 3) (pa_cons pe_non pa_nil))) (pa_cons (peTup (pa_cons (pq 3) (pa_cons pe_str pa_nil))) (pa_cons (peTup (pa_cons (pe_op oAdd (pq 3) (peLst (pa_cons pe_int pa_nil))) (pa_cons (pq 4) pa_nil))) pa_nil))))))))
      (pss_cons (psS (i := 7) sc__law_bent.nd (pe_op oAdd (pq 7) (peLst (pa_cons (peTup (pa_cons (pe_op oAdd (pq 3) (peLst (pa_cons pe_int pa_nil))) (pa_cons (pq 4) pa_nil))) (pa_cons (peTup (pa_cons (pe_op oAdd (pe_op oAdd (pe_slice (slXK (K := K) rfl) (pq 3) po_none (poSome (pq 5))) (peLst (pa_cons (pe_op oAdd (peIxK (K := K) rfl (pq 3) (pq 5)) pe_int) pa_nil))) (pe_slice (slXK (K := K) rfl) (pq 3) (poSome (pe_op oAdd (pq 5) pe_int)) po_none)) (pa_cons (pq 4) pa_nil))) (pa_cons (peTup (pa_cons (pe_slice (slXK (K := K) rfl) (pq 3) (poSome pe_int) po_none) (pa_cons (pq 4) pa_nil))) pa_nil))))))
      (pss_cons (psS (i := 7) sc__law_bent.nd (pe_op oAdd (pq 7) (peLst (pa_cons (peTup (pa_cons (pT (cTupK (K := K) rfl) N.tuple_ bt_tuple (pa_cons (pq 3) pa_nil)) (pa_cons (pq 4) pa_nil))) (pa_cons (peTup (pa_cons (pe_op oAdd (pe_op oAdd (pe_slice (slXK (K := K) rfl) (pq 3) po_none (poSome (pq 5))) (peLst (pa_cons pe_bl pa_nil))) (pe_slice (slXK (K := K) rfl) (pq 3) (poSome (pe_op oAdd (pq 5) pe_int)) po_none)) (pa_cons (pq 4) pa_nil))) (pa_cons (peLst (pa_cons (pq 3) (pa_cons (pq 4) pa_nil))) pa_nil))))))
      (pss_cons (psS (i := 7) sc__law_bent.nd (pe_op oAdd (pq 7) (peLst (pa_cons (peTup (pa_cons (pe_op oAdd (pe_op oAdd (pe_slice (slXK (K := K) rfl) (pq 3) po_none (poSome (pq 5))) (peLst (pa_cons pe_str pa_nil))) (pe_slice (slXK (K := K) rfl) (pq 3) (poSome (pe_op oAdd (pq 5) pe_int)) po_none)) (pa_cons (pq 4) pa_nil))) (pa_cons (peTup (pa_cons (pq 3) pa_nil)) (pa_cons (peTup (pa_cons (pq 3) (pa_cons (pq 4) (pa_cons pe_int pa_nil)))) (pa_cons pe_non (pa_cons pe_int pa_nil))))))))
      (pss_cons (ps_expr (peM_append (pq 7) (pa_cons (peTup (pa_cons (pe_op oAdd (pe_op oAdd (pe_slice (slXK (K := K) rfl) (pq 3) po_none (poSome (pq 5))) (peLst (pa_cons (pe_un uNeg pe_int) (pa_cons (pe_op oAdd (peIxK (K := K) rfl (pq 3) (pq 5)) pe_int) pa_nil)))) (pe_slice (slXK (K := K) rfl) (pq 3) (poSome (pe_op oAdd (pq 5) pe_int)) po_none)) (pa_cons (pq 4) pa_nil))) pa_nil)))
      (pss_cons (psIf (ptC (oLtX (by exact hu)) (pq 6) (pB (cLenK (K := K) rfl) N.len_ bt_len (pa_cons (pq 7) pa_nil))) (pss_one (ps_ret (pe_op oAdd (pe_op oAdd (pe_slice (slXK (K := K) rfl) (pq 1) po_none (poSome (pq 2))) (peLst (pa_cons (peIxK (K := K) rfl (pq 7) (pq 6)) pa_nil))) (pe_slice (slXK (K := K) rfl) (pq 1) (poSome (pe_op oAdd (pq 2) pe_int)) po_none)))) pss_nil)
      (pss_cons (psIf (ptC (oLtX (by exact hu)) (pq 6) pe_int) (pss_cons (psS (i := 8) sc__law_bent.nd (peLst (pa_cons (peLst (pa_cons pe_int pa_nil)) (pa_cons (peLst (pa_cons pe_int pa_nil)) (pa_cons (pe_op oMul (peLst (pa_cons pe_int pa_nil)) pe_int) (pa_cons (pe_op oMul (peLst (pa_cons pe_int pa_nil)) pe_int) (pa_cons (peLst (pa_cons pe_int (pa_cons pe_int (pa_cons pe_int pa_nil)))) (pa_cons (peLst (pa_cons (pe_op oPow pe_int pe_int) pa_nil)) (pa_cons (peLst (pa_cons pe_int (pa_cons pe_int pa_nil))) (pa_cons (peLst (pa_cons pe_int pa_nil)) pa_nil))))))))))
      (pss_one (ps_ret (peLst (pa_cons (peTup (pa_cons (peIxK (K := K) rfl (pq 8) (pe_op oSub (pq 6) pe_int)) (pa_cons pe_int pa_nil))) pa_nil))))) pss_nil)
      (pss_cons (psIf (ptC (oLtX (by exact hu)) (pq 6) pe_int) (pss_one (ps_ret (peIxK (K := K) rfl (peLst (pa_cons (peLst pa_nil) (pa_cons pe_non (pa_cons (pT (cTupK (K := K) rfl) N.tuple_ bt_tuple (pa_cons (pq 1) pa_nil)) (pa_cons pe_str pa_nil))))) (pe_op oSub (pq 6) pe_int)))) pss_nil)
      (pss_one (ps_ret (pq 1))))))))))))))), ?_⟩
  refine lenL_rd M.out ?_
  rw [List.length_map, tl]
  refine draw_rd hL (by walk_at "om") (by walk_at "om") (by walk_at "om") (fun at_ H1 a0 a1 c1 L1 => ?_)
  have M1 := M.chg c1 na oa
  obtain ⟨i, rfl⟩ : ∃ i : Nat, at_ = i := ⟨at_.toNat, by walk_at "om"⟩
  obtain ⟨x, ex⟩ : ∃ x, ms[i]? = some x := ⟨_, List.getElem?_eq_getElem (by walk_at "om")⟩
  obtain ⟨t, et, at0, ht, hp⟩ := M1.ix ex
  obtain ⟨x1, x2⟩ := hx x (List.mem_of_getElem? ex)
  refine ixL_rd (v := .ref t.1) M1.out at0 ?_
  refine unpT_rd ht ?_
  refine lenL_rd hp ?_
  rw [List.length_map]
  refine draw_rd L1 (by walk_at "om") (by walk_at "om") (by walk_at "om") (fun kk H2 k0 k1 c2 L2 => ?_)
  obtain ⟨k, rfl⟩ : ∃ i : Nat, kk = i := ⟨kk.toNat, by walk_at "om"⟩
  have M2 := M1.chg c2 na oa
  refine draw_rd L2 (by walk_at "om") (by walk_at "om") (by walk_at "om") (fun ch H3 w0 w1 c3 L3 => ?_)
  have M3 := M2.chg c3 na oa
  have hp := (M3.part i t x et ex).2
  have c03 : Chg a H H3 := (c1.trans c2).trans c3
  clear M1 M2 L1 L2 ht c1 c2 c3
  have pR : Rd H3 (.ref t.2) 1 := Rd.ints hp (by walk_at "om")
  have xk : x.1[k]? = some (x.1.getD k 0) := by rw [List.getD_eq_getElem?_getD, List.getElem?_eq_getElem (by walk_at "om")]; rfl
  have atk : atI (x.1.map V.int) (k : Int) = some (.int (x.1.getD k 0)) := int_at (by walk_at "om") (by rw [Int.toNat_natCast]; exact xk)
  -- the first six
  refine newT_rd (fun z1 J1 b1 y1 k1 => ?_)
  have r1 : Rd J1 (.ref z1) 2 := Rd.two k1 (pR.same y1) (Rd.int _ _)
  refine newT_rd (fun z2 J2 b2 y2 k2 => ?_)
  have p2 := (pR.same y1).same y2
  have hp2 := y2 _ _ (y1 _ _ hp)
  have r2 : Rd J2 (.ref z2) 2 := Rd.two k2 p2 (Rd.int _ _)
  refine newT_rd (fun z3 J3 b3 y3 k3 => ?_)
  have p3 := p2.same y3
  have hp3 := y3 _ _ hp2
  have r3 : Rd J3 (.ref z3) 2 := Rd.two k3 p3 (Rd.bl _ _)
  refine newT_rd (fun z4 J4 b4 y4 k4 => ?_)
  have p4 := p3.same y4
  have hp4 := y4 _ _ hp3
  have r4 : Rd J4 (.ref z4) 2 := Rd.two k4 p4 (Rd.non _)
  refine newT_rd (fun z5 J5 b5 y5 k5 => ?_)
  have p5 := p4.same y5
  have hp5 := y5 _ _ hp4
  have r5 : Rd J5 (.ref z5) 2 := Rd.two k5 p5 (Rd.str _ (by decide +kernel))
  refine newL_rd (fun z6 J6 b6 y6 k6 => ?_)
  have hp6 := y6 _ _ hp5
  refine cat_rd hp6 k6 (by rw [List.length_map, List.length_singleton, sizeLine_eq]; omega) (fun z7 J7 b7 y7 k7 => ?_)
  have q7 : Rd J7 (.ref z7) 1 := Rd.lst (n := 0) k7 (by rw [List.length_append, List.length_map, List.length_singleton]; omega) fun y hy => by
    rcases List.mem_append.mp hy with hy | hy
    · obtain ⟨i, _, rfl⟩ := List.mem_map.mp hy; exact Rd.int _ _
    · rw [List.mem_singleton.mp hy]; exact Rd.int _ _
  have hp7 := y7 _ _ hp6
  refine newT_rd (fun z8 J8 b8 y8 k8 => ?_)
  have r8 : Rd J8 (.ref z8) 2 := Rd.two k8 (q7.same y8) (Rd.int _ _)
  have hp8 := y8 _ _ hp7
  refine newL_rd (fun z9 J9 b9 y9 k9 => ?_)
  have hp9 := y9 _ _ hp8
  have R9 : ∀ w ∈ [V.ref z1, .ref z2, .ref z3, .ref z4, .ref z5, .ref z8], Rd J9 w 2 := fun w hw => by
    simp only [List.mem_cons, List.not_mem_nil, or_false] at hw
    rcases hw with rfl | rfl | rfl | rfl | rfl | rfl <;> walk_at "rd"
  clear r1 r2 r3 r4 r5 r8 k1 k2 k3 k4 k5 k6 k7 k8 p2 p3 p4 p5 q7 hp2 hp3 hp4 hp5 hp6 hp7 hp8
  have s39 : Same H3 J9 := by walk_at "sm"
  clear y1 y2 y3 y4 y5 y6 y7 y8 y9 b1 b2 b3 b4 b5 b6 b7 b8 b9
  generalize hA : [V.ref z1, .ref z2, .ref z3, .ref z4, .ref z5, .ref z8] = A1 at R9 k9
  have lA : A1.length = 6 := by rw [← hA]; rfl
  clear hA
  -- three more
  refine newL_rd (fun z1 J1 b1 y1 k1 => ?_)
  have hp1 := y1 _ _ hp9
  refine cat_rd hp1 k1 (by rw [List.length_map, List.length_singleton, sizeLine_eq]; omega) (fun z2 J2 b2 y2 k2 => ?_)
  have q2 : Rd J2 (.ref z2) 1 := Rd.lst (n := 0) k2 (by rw [List.length_append, List.length_map, List.length_singleton]; omega) fun y hy => by
    rcases List.mem_append.mp hy with hy | hy
    · obtain ⟨i, _, rfl⟩ := List.mem_map.mp hy; exact Rd.int _ _
    · rw [List.mem_singleton.mp hy]; exact Rd.int _ _
  have hp2 := y2 _ _ hp1
  refine newT_rd (fun z3 J3 b3 y3 k3 => ?_)
  have r3 : Rd J3 (.ref z3) 2 := Rd.two k3 (q2.same y3) (Rd.int _ _)
  have hp3 := y3 _ _ hp2
  refine slL_rd (SqL.of hp3) (fun z4 J4 b4 y4 k4 => ?_)
  have hp4 := y4 _ _ hp3
  refine ixL_rd (v := .int (x.1.getD k 0)) hp4 atk ?_
  refine newL_rd (fun z5 J5 b5 y5 k5 => ?_)
  have hp5 := y5 _ _ hp4
  have c8 : ∀ {lo hi : Option Int}, (cutV (x.1.map V.int) lo hi).length ≤ 8 := fun {lo hi} => Nat.le_trans cut_len (by rw [List.length_map]; exact x2)
  refine cat_rd (y5 _ _ k4) k5 (by rw [List.length_singleton, sizeLine_eq]; have := c8 (lo := none) (hi := some (k : Int)); omega) (fun z6 J6 b6 y6 k6 => ?_)
  have hp6 := y6 _ _ hp5
  refine slL_rd (SqL.of hp6) (fun z7 J7 b7 y7 k7 => ?_)
  have hp7 := y7 _ _ hp6
  refine cat_rd (y7 _ _ k6) k7 (by rw [List.length_append, List.length_singleton, sizeLine_eq]; have := c8 (lo := none) (hi := some (k : Int)); have := c8 (lo := some ((k : Int) + 1)) (hi := none); omega) (fun z8 J8 b8 y8 k8 => ?_)
  have q8 : Rd J8 (.ref z8) 1 := Rd.lst (n := 0) k8 (by rw [List.length_append, List.length_append, List.length_singleton]; have := c8 (lo := none) (hi := some (k : Int)); have := c8 (lo := some ((k : Int) + 1)) (hi := none); omega) fun y hy => by
    rcases List.mem_append.mp hy with hy | hy
    · rcases List.mem_append.mp hy with hy | hy
      · obtain ⟨i, rfl⟩ := ints_cut y hy; exact Rd.int _ _
      · rw [List.mem_singleton.mp hy]; exact Rd.int _ _
    · obtain ⟨i, rfl⟩ := ints_cut y hy; exact Rd.int _ _
  have hp8 := y8 _ _ hp7
  refine newT_rd (fun z10 J10 b10 y10 k10 => ?_)
  have r10 : Rd J10 (.ref z10) 2 := Rd.two k10 (q8.same y10) (Rd.int _ _)
  have hp10 := y10 _ _ hp8
  refine slL_rd (SqL.of hp10) (fun z11 J11 b11 y11 k11 => ?_)
  have hp11 := y11 _ _ hp10
  have q11 : Rd J11 (.ref z11) 1 := Rd.lst (n := 0) k11 (Nat.lt_of_le_of_lt c8 (by walk_at "om")) fun y hy => by
    obtain ⟨i, rfl⟩ := ints_cut y hy; exact Rd.int _ _
  refine newT_rd (fun z12 J12 b12 y12 k12 => ?_)
  have r12 : Rd J12 (.ref z12) 2 := Rd.two k12 (q11.same y12) (Rd.int _ _)
  have hp12 := y12 _ _ hp11
  refine newL_rd (fun z13 J13 b13 y13 k13 => ?_)
  have hp13 := y13 _ _ hp12
  have R13 : ∀ w ∈ [V.ref z3, .ref z10, .ref z12], Rd J13 w 2 := fun w hw => by
    simp only [List.mem_cons, List.not_mem_nil, or_false] at hw
    rcases hw with rfl | rfl | rfl <;> walk_at "rd"
  have s93 : Same J9 J13 := by walk_at "sm"
  clear r3 r10 r12 k1 k2 k3 k4 k5 k6 k7 k8 k10 k11 k12 q2 q8 q11 hp1 hp2 hp3 hp4 hp5 hp6 hp7 hp8 hp10 hp11 hp12 y1 y2 y3 y4 y5 y6 y7 y8 y10 y11 y12 y13 b1 b2 b3 b4 b5 b6 b7 b8 b10 b11 b12 b13
  generalize hA : [V.ref z3, .ref z10, .ref z12] = A2 at R13 k13
  have lA2 : A2.length = 3 := by rw [← hA]; rfl
  clear hA
  refine cat_rd (s93 _ _ k9) k13 (by rw [lA, lA2, sizeLine_eq]; omega) (fun z14 J14 b14 y14 k14 => ?_)
  have R14 : ∀ w ∈ A1 ++ A2, Rd J14 w 2 := fun w hw => by
    rcases List.mem_append.mp hw with hw | hw
    · exact ((R9 w hw).same s93).same y14
    · exact (R13 w hw).same y14
  have hp14 := y14 _ _ hp13
  have s34 : Same H3 J14 := (s39.trans s93).trans y14
  clear R9 R13 k9 k13 s93 y14 hp9 hp13 s39 b14
  generalize hB : A1 ++ A2 = B1 at R14 k14
  have lB : B1.length = 9 := by rw [← hB, List.length_append, lA, lA2]
  clear hB
  -- and three
  refine tupL_rd (SqL.of hp14) (fun z1 J1 b1 y1 k1 => ?_)
  have hp1 := y1 _ _ hp14
  have q1 : Rd J1 (.ref z1) 1 := Rd.tup (n := 0) k1 (by rw [List.length_map]; omega) fun y hy => by
    obtain ⟨i, _, rfl⟩ := List.mem_map.mp hy; exact Rd.int _ _
  refine newT_rd (fun z2 J2 b2 y2 k2 => ?_)
  have r2 : Rd J2 (.ref z2) 2 := Rd.two k2 (q1.same y2) (Rd.int _ _)
  have hp2 := y2 _ _ hp1
  refine slL_rd (SqL.of hp2) (fun z4 J4 b4 y4 k4 => ?_)
  have hp4 := y4 _ _ hp2
  refine newL_rd (fun z5 J5 b5 y5 k5 => ?_)
  have hp5 := y5 _ _ hp4
  refine cat_rd (y5 _ _ k4) k5 (by rw [List.length_singleton, sizeLine_eq]; have := c8 (lo := none) (hi := some (k : Int)); omega) (fun z6 J6 b6 y6 k6 => ?_)
  have hp6 := y6 _ _ hp5
  refine slL_rd (SqL.of hp6) (fun z7 J7 b7 y7 k7 => ?_)
  have hp7 := y7 _ _ hp6
  refine cat_rd (y7 _ _ k6) k7 (by rw [List.length_append, List.length_singleton, sizeLine_eq]; have := c8 (lo := none) (hi := some (k : Int)); have := c8 (lo := some ((k : Int) + 1)) (hi := none); omega) (fun z8 J8 b8 y8 k8 => ?_)
  have q8 : Rd J8 (.ref z8) 1 := Rd.lst (n := 0) k8 (by rw [List.length_append, List.length_append, List.length_singleton]; have := c8 (lo := none) (hi := some (k : Int)); have := c8 (lo := some ((k : Int) + 1)) (hi := none); omega) fun y hy => by
    rcases List.mem_append.mp hy with hy | hy
    · rcases List.mem_append.mp hy with hy | hy
      · obtain ⟨i, rfl⟩ := ints_cut y hy; exact Rd.int _ _
      · rw [List.mem_singleton.mp hy]; exact Rd.bl _ _
    · obtain ⟨i, rfl⟩ := ints_cut y hy; exact Rd.int _ _
  have hp8 := y8 _ _ hp7
  refine newT_rd (fun z10 J10 b10 y10 k10 => ?_)
  have r10 : Rd J10 (.ref z10) 2 := Rd.two k10 (q8.same y10) (Rd.int _ _)
  have hp10 := y10 _ _ hp8
  refine newL_rd (fun z11 J11 b11 y11 k11 => ?_)
  have hp11 := y11 _ _ hp10
  have r11 : Rd J11 (.ref z11) 2 := Rd.lst (n := 1) k11 (by show 2 < 60; decide) fun y hy => by
    simp only [List.mem_cons, List.not_mem_nil, or_false] at hy
    rcases hy with rfl | rfl
    · exact Rd.ints hp11 (by walk_at "om")
    · exact Rd.int _ _
  refine newL_rd (fun z13 J13 b13 y13 k13 => ?_)
  have hp13 := y13 _ _ hp11
  have R13 : ∀ w ∈ [V.ref z2, .ref z10, .ref z11], Rd J13 w 2 := fun w hw => by
    simp only [List.mem_cons, List.not_mem_nil, or_false] at hw
    rcases hw with rfl | rfl | rfl <;> walk_at "rd"
  have s93 : Same J14 J13 := by walk_at "sm"
  clear r2 r10 r11 k1 k2 k4 k5 k6 k7 k8 k10 k11 q1 q8 hp1 hp2 hp4 hp5 hp6 hp7 hp8 hp10 hp11 y1 y2 y4 y5 y6 y7 y8 y10 y11 y13 b1 b2 b4 b5 b6 b7 b8 b10 b11 b13
  generalize hA : [V.ref z2, .ref z10, .ref z11] = A3 at R13 k13
  have lA3 : A3.length = 3 := by rw [← hA]; rfl
  clear hA
  refine cat_rd (s93 _ _ k14) k13 (by rw [lB, lA3, sizeLine_eq]; omega) (fun z15 J15 b15 y15 k15 => ?_)
  have R15 : ∀ w ∈ B1 ++ A3, Rd J15 w 2 := fun w hw => by
    rcases List.mem_append.mp hw with hw | hw
    · exact ((R14 w hw).same s93).same y15
    · exact (R13 w hw).same y15
  have hp15 := y15 _ _ hp13
  have s35 : Same H3 J15 := (s34.trans s93).trans y15
  clear R14 R13 k14 k13 s93 y15 hp14 hp13 s34 b15
  generalize hB : B1 ++ A3 = B2 at R15 k15
  have lB2 : B2.length = 12 := by rw [← hB, List.length_append, lB, lA3]
  clear hB
  -- and five
  refine slL_rd (SqL.of hp15) (fun z4 J4 b4 y4 k4 => ?_)
  have hp4 := y4 _ _ hp15
  refine newL_rd (fun z5 J5 b5 y5 k5 => ?_)
  have hp5 := y5 _ _ hp4
  refine cat_rd (y5 _ _ k4) k5 (by rw [List.length_singleton, sizeLine_eq]; have := c8 (lo := none) (hi := some (k : Int)); omega) (fun z6 J6 b6 y6 k6 => ?_)
  have hp6 := y6 _ _ hp5
  refine slL_rd (SqL.of hp6) (fun z7 J7 b7 y7 k7 => ?_)
  have hp7 := y7 _ _ hp6
  refine cat_rd (y7 _ _ k6) k7 (by rw [List.length_append, List.length_singleton, sizeLine_eq]; have := c8 (lo := none) (hi := some (k : Int)); have := c8 (lo := some ((k : Int) + 1)) (hi := none); omega) (fun z8 J8 b8 y8 k8 => ?_)
  have q8 : Rd J8 (.ref z8) 1 := Rd.lst (n := 0) k8 (by rw [List.length_append, List.length_append, List.length_singleton]; have := c8 (lo := none) (hi := some (k : Int)); have := c8 (lo := some ((k : Int) + 1)) (hi := none); omega) fun y hy => by
    rcases List.mem_append.mp hy with hy | hy
    · rcases List.mem_append.mp hy with hy | hy
      · obtain ⟨i, rfl⟩ := ints_cut y hy; exact Rd.int _ _
      · rw [List.mem_singleton.mp hy]; exact Rd.str _ (by decide +kernel)
    · obtain ⟨i, rfl⟩ := ints_cut y hy; exact Rd.int _ _
  have hp8 := y8 _ _ hp7
  refine newT_rd (fun z10 J10 b10 y10 k10 => ?_)
  have r10 : Rd J10 (.ref z10) 2 := Rd.two k10 (q8.same y10) (Rd.int _ _)
  have hp10 := y10 _ _ hp8
  refine newT_rd (fun z11 J11 b11 y11 k11 => ?_)
  have hp11 := y11 _ _ hp10
  have r11 : Rd J11 (.ref z11) 2 := Rd.tup (n := 1) k11 (by show 1 < 60; decide) fun y hy => by
    rw [List.mem_singleton.mp hy]; exact Rd.ints hp11 (by walk_at "om")
  refine newT_rd (fun z12 J12 b12 y12 k12 => ?_)
  have hp12 := y12 _ _ hp11
  have r12 : Rd J12 (.ref z12) 2 := Rd.tup (n := 1) k12 (by show 3 < 60; decide) fun y hy => by
    simp only [List.mem_cons, List.not_mem_nil, or_false] at hy
    rcases hy with rfl | rfl | rfl
    · exact Rd.ints hp12 (by walk_at "om")
    · exact Rd.int _ _
    · exact Rd.int _ _
  refine newL_rd (fun z13 J13 b13 y13 k13 => ?_)
  have hp13 := y13 _ _ hp12
  have R13 : ∀ w ∈ [V.ref z10, .ref z11, .ref z12, .non, .int 5], Rd J13 w 2 := fun w hw => by
    simp only [List.mem_cons, List.not_mem_nil, or_false] at hw
    rcases hw with rfl | rfl | rfl | rfl | rfl
    · walk_at "rd"
    · walk_at "rd"
    · walk_at "rd"
    · exact Rd.non _
    · exact Rd.int _ _
  have s93 : Same J15 J13 := by walk_at "sm"
  clear r10 r11 r12 k4 k5 k6 k7 k8 k10 k11 k12 q8 hp4 hp5 hp6 hp7 hp8 hp10 hp11 hp12 y4 y5 y6 y7 y8 y10 y11 y12 y13 b4 b5 b6 b7 b8 b10 b11 b12 b13
  generalize hA : [V.ref z10, .ref z11, .ref z12, .non, .int 5] = A4 at R13 k13
  have lA4 : A4.length = 5 := by rw [← hA]; rfl
  clear hA
  refine cat_rd (s93 _ _ k15) k13 (by rw [lB2, lA4, sizeLine_eq]; omega) (fun l J16 b16 y16 k16 => ?_)
  have up16 : Same J13 (rm l J16) := fun b o e => rm_at (fun z => by rw [z, b16] at e; cases e) (y16 _ _ e)
  have R16 : ∀ w ∈ B2 ++ A4, Rd (rm l J16) w 2 := fun w hw => by
    rcases List.mem_append.mp hw with hw | hw
    · exact ((R15 w hw).same s93).same up16
    · exact (R13 w hw).same up16
  have hp16 := y16 _ _ hp13
  have s36 : Same H3 J16 := (s35.trans s93).trans y16
  have fl : H3 l = none := (s35.trans s93).free b16
  clear R15 R13 k15 k13 s93 y16 up16 hp15 hp13 s35 b16
  generalize hB : B2 ++ A4 = B3 at R16 k16
  have lB3 : B3.length = 17 := by rw [← hB, List.length_append, lB2, lA4]
  clear hB
  -- and the last
  refine lst_is k16 ?_
  refine slL_rd (SqL.of hp16) (fun z4 J4 b4 y4 k4 => ?_)
  have hp4 := y4 _ _ hp16
  refine ixL_rd (v := .int (x.1.getD k 0)) hp4 atk ?_
  refine newL_rd (fun z5 J5 b5 y5 k5 => ?_)
  have hp5 := y5 _ _ hp4
  refine cat_rd (y5 _ _ k4) k5 (by rw [sizeLine_eq]; have := c8 (lo := none) (hi := some (k : Int)); simp only [List.length_cons, List.length_nil]; omega) (fun z6 J6 b6 y6 k6 => ?_)
  have hp6 := y6 _ _ hp5
  refine slL_rd (SqL.of hp6) (fun z7 J7 b7 y7 k7 => ?_)
  have hp7 := y7 _ _ hp6
  refine cat_rd (y7 _ _ k6) k7 (by rw [List.length_append, sizeLine_eq]; have := c8 (lo := none) (hi := some (k : Int)); have := c8 (lo := some ((k : Int) + 1)) (hi := none); simp only [List.length_cons, List.length_nil]; omega) (fun z8 J8 b8 y8 k8 => ?_)
  have l7 := y7 _ _ (y6 _ _ (y5 _ _ (y4 _ _ k16)))
  have n8 : z8 ≠ l := Ne.symm (ne_of_none l7 b8)
  have q8 : Rd (rm l J8) (.ref z8) 1 := Rd.lst (n := 0) (rm_at n8 k8) (by rw [List.length_append, List.length_append]; have := c8 (lo := none) (hi := some (k : Int)); have := c8 (lo := some ((k : Int) + 1)) (hi := none); simp only [List.length_cons, List.length_nil]; omega) fun y hy => by
    rcases List.mem_append.mp hy with hy | hy
    · rcases List.mem_append.mp hy with hy | hy
      · obtain ⟨i, rfl⟩ := ints_cut y hy; exact Rd.int _ _
      · simp only [List.mem_cons, List.not_mem_nil, or_false] at hy
        rcases hy with rfl | rfl <;> exact Rd.int _ _
    · obtain ⟨i, rfl⟩ := ints_cut y hy; exact Rd.int _ _
  have hp8 := y8 _ _ hp7
  refine newT_rd (fun z10 J10 b10 y10 k10 => ?_)
  have n10 : z10 ≠ l := Ne.symm (ne_of_none (y8 _ _ l7) b10)
  have r10 : Rd (rm l J10) (.ref z10) 2 := Rd.two (rm_at n10 k10) (q8.same (Same.rm y10)) (Rd.int _ _)
  have s60 : Same J16 J10 := by walk_at "sm"
  refine app_rd (s60 _ _ k16) (by rw [lB3, sizeLine_eq]; omega) (fun J11 c11 h11 => ?_)
  have s30 : Same H3 J10 := s36.trans s60
  have s31 : Same H3 J11 := s30.chg fl c11
  have R11 : ∀ w ∈ B3 ++ [.ref z10], Rd J11 w 2 := fun w hw => by
    have up : Same (rm l J10) J11 := (Chg.rm c11).trans (rm_same _ _)
    rcases List.mem_append.mp hw with hw | hw
    · exact ((R16 w hw).same (Same.rm s60)).same up
    · rw [List.mem_singleton.mp hw]; exact r10.same up
  clear R16 r10 q8 k4 k5 k6 k7 k8 k10 hp4 hp5 hp6 hp7 hp8 y4 y5 y6 y7 y8 y10 b4 b5 b6 b7 b8 b10 l7 k16 hp16 s36 s60 s30 c11
  have lB4 : (B3 ++ [V.ref z10]).length = 18 := by rw [List.length_append, lB3]; rfl
  generalize B3 ++ [V.ref z10] = B4 at R11 h11 lB4
  have c31 : Chg a H J11 := c03.same s31
  have MJ := M3.same s31
  have MR := MJ.rd fun x hx' => by have := hx x hx'; omega
  refine lenL_rd h11 ?_
  rw [lB4]
  refine br_dec (fun g1 => ?_) (fun g1 => ?_)
  · walk_at "wh"
    refine slL_rd (SqL.of MJ.out) (fun z1 J1 b1 y1 k1 => ?_)
    refine ixAny_rd (y1 _ _ h11) (by walk_at "om") (by rw [lB4]; omega) ?_
    intro sw hsw
    have rw1 := (R11 sw hsw).same y1
    refine newL_rd (fun z2 J2 b2 y2 k2 => ?_)
    have lm : ∀ {lo hi : Option Int}, (cutV (ts.map fun t => V.ref t.1) lo hi).length ≤ 8 := fun {lo hi} => Nat.le_trans cut_len (by rw [List.length_map]; omega)
    refine cat_rd (y2 _ _ k1) k2 (by rw [List.length_singleton, sizeLine_eq]; have := lm (lo := none) (hi := some (i : Int)); omega) (fun z3 J3 b3 y3 k3 => ?_)
    refine slL_rd (SqL.of (y3 _ _ (y2 _ _ (y1 _ _ MJ.out)))) (fun z4 J4 b4 y4 k4 => ?_)
    refine cat_rd (y4 _ _ k3) k4 (by rw [List.length_append, List.length_singleton, sizeLine_eq]; have := lm (lo := none) (hi := some (i : Int)); have := lm (lo := some ((i : Int) + 1)) (hi := none); omega) (fun z5 J5 b5 y5 k5 => ?_)
    walk_at "wh"
    have y15 := (((y1.trans y2).trans y3).trans y4).trans y5
    refine q _ _ (c31.same y15) (Rd.up (n := 3) (Rd.lst (n := 2) k5 (by rw [List.length_append, List.length_append, List.length_singleton]; have := lm (lo := none) (hi := some (i : Int)); have := lm (lo := some ((i : Int) + 1)) (hi := none); omega) fun w hw => ?_))
    rcases List.mem_append.mp hw with hw | hw
    · rcases List.mem_append.mp hw with hw | hw
      · exact (MR w (cut_mem hw)).same y15
      · rw [List.mem_singleton.mp hw]; exact rw1.same (((y2.trans y3).trans y4).trans y5)
    · exact (MR w (cut_mem hw)).same y15
  refine br_dec (fun g2 => ?_) (fun g2 => ?_)
  · walk_at "wh"
    refine newL_rd (fun z1 J1 b1 y1 k1 => ?_)
    have r1 := Rd.ints (ns := [41]) k1 (by decide)
    refine newL_rd (fun z2 J2 b2 y2 k2 => ?_)
    have r2 := Rd.ints (ns := [40]) k2 (by decide)
    refine newL_rd (fun z3 J3 b3 y3 k3 => ?_)
    refine rep_rd k3 (by decide) (by decide) (by rw [sizeLine_eq]; decide) (fun z4 J4 b4 y4 k4 => ?_)
    have r4 := Rd.ints (ns := List.replicate 9 0) k4 (by decide)
    refine newL_rd (fun z5 J5 b5 y5 k5 => ?_)
    refine rep_rd k5 (by decide) (by decide) (by rw [sizeLine_eq]; decide) (fun z6 J6 b6 y6 k6 => ?_)
    have r6 := Rd.ints (ns := List.replicate 8 0) k6 (by decide)
    refine newL_rd (fun z7 J7 b7 y7 k7 => ?_)
    have r7 := Rd.ints (ns := [39, 1, 1]) k7 (by decide)
    walk_at "st"
    refine newL_rd (fun z8 J8 b8 y8 k8 => ?_)
    have r8 := Rd.ints (ns := [10000000000000000000000000000]) k8 (by decide)
    refine newL_rd (fun z9 J9 b9 y9 k9 => ?_)
    have r9 := Rd.ints (ns := [40, 0]) k9 (by decide)
    refine newL_rd (fun z10 J10 b10 y10 k10 => ?_)
    have r10 := Rd.ints (ns := [0]) k10 (by decide)
    refine newL_rd (fun z12 J12 b12 y12 k12 => ?_)
    have R12 : ∀ w ∈ [V.ref z1, .ref z2, .ref z4, .ref z6, .ref z7, .ref z8, .ref z9, .ref z10], Rd J12 w 1 := fun w hw => by
      simp only [List.mem_cons, List.not_mem_nil, or_false] at hw
      rcases hw with rfl | rfl | rfl | rfl | rfl | rfl | rfl | rfl <;> walk_at "rd"
    have s12 : Same J11 J12 := by walk_at "sm"
    refine ixAny_rd k12 (by walk_at "om") (by simp only [List.length_cons, List.length_nil]; omega) ?_
    intro sw hsw
    have rw1 := R12 sw hsw
    refine newT_rd (fun z13 J13 b13 y13 k13 => ?_)
    refine newL_rd (fun z14 J14 b14 y14 k14 => ?_)
    walk_at "wh"
    refine q _ _ (c31.same ((s12.trans y13).trans y14)) (Rd.up (n := 3) (Rd.lst (n := 2) k14 (by show 1 < 60; decide) fun w hw => ?_))
    rw [List.mem_singleton.mp hw]
    exact (Rd.two k13 (rw1.same y13) (Rd.int _ _)).same y14
  refine br_dec (fun g3 => ?_) (fun g3 => ?_)
  · walk_at "wh"
    refine newL_rd (fun z1 J1 b1 y1 k1 => ?_)
    refine tupL_rd (SqL.of (y1 _ _ MJ.out)) (fun z2 J2 b2 y2 k2 => ?_)
    refine newL_rd (fun z3 J3 b3 y3 k3 => ?_)
    refine ixAny_rd k3 (by walk_at "om") (by simp only [List.length_cons, List.length_nil]; omega) ?_
    intro sw hsw
    walk_at "wh"
    refine q _ _ (c31.same ((y1.trans y2).trans y3)) ?_
    simp only [List.mem_cons, List.not_mem_nil, or_false] at hsw
    rcases hsw with rfl | rfl | rfl | rfl
    · exact Rd.up (n := 1) (Rd.ints (ns := []) ((y2.trans y3) _ _ k1) (by decide))
    · exact Rd.non _
    · exact Rd.up (n := 3) (Rd.tup (n := 2) (y3 _ _ k2) (by rw [List.length_map]; omega) fun w hw => (MR w hw).same ((y1.trans y2).trans y3))
    · exact Rd.str _ (by decide +kernel)
  walk_at "wh"
  exact q _ _ c31 (Rd.up (n := 3) (Rd.lst (n := 2) MJ.out (by rw [List.length_map]; omega) MR))
-- @@split
/-! ### sums under keys, reckoned -/
section
variable {κ μ : Type} [DecidableEq κ] [DecidableEq μ]
def atG (zs : List (κ × Int)) (k : κ) : Int := ((zs.filter fun z => decide (z.1 = k)).map (·.2)).sum
theorem valG_none {kv : List (κ × Int)} {k : κ} : k ∉ kv.map (·.1) → valG kv k = none := by
  induction kv with
  | nil => intro _; rfl
  | cons z kv ih =>
    intro h
    rw [List.map_cons, List.mem_cons, not_or] at h
    rw [valG_neg (fun e => h.1 e.symm), ih h.2]
theorem valG_map (kv : List (κ × Int)) (k j : κ) (n : Int) : valG (kv.map fun z => if z.1 = k then (z.1, n) else z) j = if j = k then (if j ∈ kv.map (·.1) then some n else none) else valG kv j := by
  induction kv with
  | nil => by_cases e : j = k <;> simp [e, valG]
  | cons z kv ih =>
    rw [List.map_cons]
    by_cases ez : z.1 = j
    · subst ez
      by_cases ek : z.1 = k
      · rw [if_pos ek, if_pos ek, valG_pos (z := (z.1, n)) rfl, if_pos (by simp)]
      · rw [if_neg ek, if_neg ek, valG_pos rfl, valG_pos rfl]
    · have : ¬ (if z.1 = k then (z.1, n) else z).1 = j := by split <;> exact ez
      rw [valG_neg this, ih, valG_neg ez]
      by_cases ek : j = k
      · rw [if_pos ek, if_pos ek]
        have : (j ∈ (z :: kv).map (·.1)) ↔ j ∈ kv.map (·.1) := by
          rw [List.map_cons, List.mem_cons]
          exact ⟨fun h => h.resolve_left fun e => ez e.symm, .inr⟩
        by_cases h : j ∈ kv.map (·.1)
        · rw [if_pos h, if_pos (this.mpr h)]
        · rw [if_neg h, if_neg fun z => h (this.mp z)]
      · rw [if_neg ek, if_neg ek]
theorem any_key (kv : List (κ × Int)) (k : κ) : (kv.any fun z => decide (z.1 = k)) = true ↔ k ∈ kv.map (·.1) := by
  rw [List.any_eq_true, List.mem_map]
  exact ⟨fun ⟨z, h1, h2⟩ => ⟨z, h1, of_decide_eq_true h2⟩, fun ⟨z, h1, h2⟩ => ⟨z, h1, decide_eq_true h2⟩⟩
theorem valG_app (kv : List (κ × Int)) (z : κ × Int) (j : κ) : valG (kv ++ [z]) j = match valG kv j with | some n => some n | none => if z.1 = j then some z.2 else none := by
  induction kv with
  | nil =>
    by_cases e : z.1 = j
    · show valG [z] j = if z.1 = j then some z.2 else none; rw [valG_pos e, if_pos e]
    · show valG [z] j = if z.1 = j then some z.2 else none; rw [valG_neg e, if_neg e]; rfl
  | cons y kv ih =>
    rw [List.cons_append]
    by_cases e : y.1 = j
    · rw [valG_pos e, valG_pos e]
    · rw [valG_neg e, valG_neg e, ih]
theorem valG_put (kv : List (κ × Int)) (k j : κ) (n : Int) : valG (putG kv k n) j = if j = k then some n else valG kv j := by
  unfold putG
  by_cases h : (kv.any fun z => decide (z.1 = k)) = true
  · rw [if_pos h, valG_map]
    by_cases e : j = k
    · rw [if_pos e, if_pos e, if_pos (by rw [e]; exact (any_key kv k).mp h)]
    · rw [if_neg e, if_neg e]
  · rw [if_neg h, valG_app]
    have hk : k ∉ kv.map (·.1) := fun z => h ((any_key kv k).mpr z)
    by_cases e : j = k
    · subst e
      rw [valG_none hk, if_pos rfl]
      first | done | exact if_pos rfl
    · rw [if_neg e]
      cases valG kv j with
      | none => exact if_neg fun z => e z.symm
      | some m => rfl
theorem atG_snoc (zs : List (κ × Int)) (z : κ × Int) (k : κ) : atG (zs ++ [z]) k = atG zs k + if z.1 = k then z.2 else 0 := by
  unfold atG
  rw [List.filter_append, List.map_append, List.sum_append]
  by_cases e : z.1 = k
  · rw [if_pos e, List.filter_cons, if_pos (decide_eq_true e)]; simp
  · rw [if_neg e, List.filter_cons, if_neg (by rw [decide_eq_false e]; exact Bool.false_ne_true)]; simp
theorem atG_cons (zs : List (κ × Int)) (z : κ × Int) (k : κ) : atG (z :: zs) k = (if z.1 = k then z.2 else 0) + atG zs k := by
  unfold atG
  by_cases e : z.1 = k
  · rw [if_pos e, List.filter_cons, if_pos (decide_eq_true e)]; simp
  · rw [if_neg e, List.filter_cons, if_neg (by rw [decide_eq_false e]; exact Bool.false_ne_true)]; simp
theorem snoc_ind {α : Type} {P : List α → Prop} (h0 : P []) (hs : ∀ xs x, P xs → P (xs ++ [x])) (xs : List α) : P xs := by
  have : ∀ n (xs : List α), xs.length = n → P xs := fun n => by
    induction n with
    | zero => intro xs h; rw [List.length_eq_zero_iff.mp h]; exact h0
    | succ n ih =>
      intro xs h
      have hn : xs ≠ [] := fun z => by rw [z] at h; simp at h
      rw [← List.dropLast_concat_getLast hn]
      exact hs _ _ (ih _ (by rw [List.length_dropLast]; omega))
  exact this _ xs rfl
theorem sum_val (zs : List (κ × Int)) (k : κ) : valG (sumG zs) k = if k ∈ zs.map (·.1) then some (atG zs k) else none := by
  induction zs using snoc_ind with
  | h0 => rfl
  | hs zs z ih =>
    rw [sumG_snoc]
    unfold addG
    rw [valG_put, atG_snoc]
    have mm : k ∈ (zs ++ [z]).map (·.1) ↔ (k ∈ zs.map (·.1) ∨ k ∈ [z].map (·.1)) := by rw [List.map_append, List.mem_append]
    by_cases e : k = z.1
    · subst e
      rw [if_pos rfl, if_pos (mm.mpr (.inr (by simp))), if_pos rfl, ih]
      by_cases h : z.1 ∈ zs.map (·.1)
      · rw [if_pos h]; rfl
      · rw [if_neg h]
        have : atG zs z.1 = 0 := by
          unfold atG
          rw [List.filter_eq_nil_iff.mpr fun y hy hd => h (List.mem_map.mpr ⟨y, hy, of_decide_eq_true hd⟩)]; rfl
        rw [this]; rfl
    · have z0 : (if z.1 = k then z.2 else 0) = 0 := if_neg fun q => e q.symm
      rw [if_neg e, ih, z0, Int.add_zero]
      have : (k ∈ zs.map (·.1) ∨ k ∈ [z].map (·.1)) ↔ k ∈ zs.map (·.1) := ⟨fun h => h.resolve_right fun q => e (by simpa using q), .inl⟩
      by_cases h : k ∈ zs.map (·.1)
      · rw [if_pos h, if_pos (mm.mpr (.inl h))]
      · rw [if_neg h, if_neg fun q => h (this.mp (mm.mp q))]
theorem put_keys (kv : List (κ × Int)) (k : κ) (n : Int) : (putG kv k n).map (·.1) = if k ∈ kv.map (·.1) then kv.map (·.1) else kv.map (·.1) ++ [k] := by
  unfold putG
  by_cases h : (kv.any fun z => decide (z.1 = k)) = true
  · rw [if_pos h, if_pos ((any_key kv k).mp h), List.map_map]
    refine List.map_congr_left fun z _ => ?_
    show (if z.1 = k then (z.1, n) else z).1 = z.1
    split <;> rfl
  · rw [if_neg h, if_neg fun z => h ((any_key kv k).mpr z), List.map_append]; rfl
theorem sum_keys (zs : List (κ × Int)) : ((sumG zs).map (·.1)).Nodup ∧ ∀ k, k ∈ (sumG zs).map (·.1) ↔ k ∈ zs.map (·.1) := by
  induction zs using snoc_ind with
  | h0 => exact ⟨List.nodup_nil, fun k => Iff.rfl⟩
  | hs zs z ih =>
    rw [sumG_snoc]
    unfold addG
    rw [put_keys]
    by_cases h : z.1 ∈ (sumG zs).map (·.1)
    · rw [if_pos h]
      refine ⟨ih.1, fun k => ?_⟩
      rw [ih.2, List.map_append, List.mem_append]
      exact ⟨.inl, fun q => q.elim id fun q => by rw [show k = z.1 by simpa using q]; exact (ih.2 _).mp h⟩
    · rw [if_neg h]
      refine ⟨?_, fun k => ?_⟩
      · rw [List.nodup_append]
        refine ⟨ih.1, by simp, fun a ha b hb => ?_⟩
        rw [show b = z.1 by simpa using hb]
        exact fun q => h (q ▸ ha)
      · rw [List.mem_append, ih.2, List.map_append, List.mem_append]; rfl
theorem valG_mem {kv : List (κ × Int)} (nd : (kv.map (·.1)).Nodup) {z : κ × Int} (h : z ∈ kv) : valG kv z.1 = some z.2 := by
  induction kv with
  | nil => cases h
  | cons y kv ih =>
    rw [List.map_cons, List.nodup_cons] at nd
    rcases List.mem_cons.mp h with rfl | h
    · exact valG_pos rfl
    · rw [valG_neg (fun e => nd.1 (e ▸ List.mem_map.mpr ⟨z, h, rfl⟩))]
      exact ih nd.2 h
theorem atG_ge {zs : List (κ × Int)} (h1 : ∀ z ∈ zs, 1 ≤ z.2) : ∀ {k : κ}, (0 ≤ atG zs k) ∧ (k ∈ zs.map (·.1) → 1 ≤ atG zs k) := by
  induction zs with
  | nil => exact fun {k} => ⟨Int.le_refl _, fun h => by cases h⟩
  | cons z zs ih =>
    intro k
    obtain ⟨i1, i2⟩ := ih (fun y hy => h1 y (.tail _ hy)) (k := k)
    have z1 := h1 z (.head _)
    rw [atG_cons]
    by_cases e : z.1 = k
    · rw [if_pos e]
      exact ⟨by walk_at "om", fun _ => by walk_at "om"⟩
    · rw [if_neg e]
      refine ⟨by walk_at "om", fun h => ?_⟩
      rw [List.map_cons, List.mem_cons] at h
      have := i2 (h.resolve_left fun q => e q.symm)
      omega
/-- grouped, then grouped again -/
theorem sum_one {p : κ → Bool} {a : κ} {c : Int} : ∀ {ks : List κ}, ks.Nodup → ((ks.filter p).map fun k => if a = k then c else 0).sum = if a ∈ ks ∧ p a = true then c else 0
  | [], _ => by simp
  | k :: ks, nd => by
    rw [List.nodup_cons] at nd
    have ih := sum_one (p := p) (a := a) (c := c) nd.2
    rw [List.filter_cons]
    by_cases e : a = k
    · subst e
      have : ¬ (a ∈ ks ∧ p a = true) := fun h => nd.1 h.1
      rw [if_neg this] at ih
      by_cases hp : p a = true
      · rw [if_pos hp, List.map_cons, List.sum_cons, ih, if_pos rfl, if_pos ⟨.head _, hp⟩]; omega
      · rw [if_neg hp, ih, if_neg fun h => hp h.2]
    · have : (a ∈ k :: ks ∧ p a = true) ↔ (a ∈ ks ∧ p a = true) := by rw [List.mem_cons]; exact ⟨fun h => ⟨h.1.resolve_left e, h.2⟩, fun h => ⟨.inr h.1, h.2⟩⟩
      have st : ∀ b, (if b = true then k :: ks.filter p else ks.filter p).map (fun k => if a = k then c else 0) = if b = true then 0 :: (ks.filter p).map (fun k => if a = k then c else 0) else (ks.filter p).map fun k => if a = k then c else 0 := fun b => by
        cases b
        · rfl
        · show (if a = k then c else 0) :: _ = _
          rw [if_neg e]; rfl
      rw [st]
      have s0 : (if p k = true then (0 : Int) :: (ks.filter p).map (fun k => if a = k then c else 0) else (ks.filter p).map fun k => if a = k then c else 0).sum = ((ks.filter p).map fun k => if a = k then c else 0).sum := by
        split
        · rw [List.sum_cons, Int.zero_add]
        · rfl
      rw [s0, ih]
      by_cases h : a ∈ ks ∧ p a = true
      · rw [if_pos h, if_pos (this.mpr h)]
      · rw [if_neg h, if_neg fun q => h (this.mp q)]
theorem sum_addf {α : Type} (f g : α → Int) : ∀ xs : List α, (xs.map fun x => f x + g x).sum = (xs.map f).sum + (xs.map g).sum
  | [] => rfl
  | x :: xs => by
    have := sum_addf f g xs
    simp only [List.map_cons, List.sum_cons]
    omega
theorem regroup {p : κ → Bool} {ks : List κ} (nd : ks.Nodup) : ∀ {zs : List (κ × Int)}, (∀ z ∈ zs, z.1 ∈ ks) → ((ks.filter p).map (atG zs)).sum = ((zs.filter fun z => p z.1).map (·.2)).sum
  | [], _ => by
    have : ((ks.filter p).map (atG ([] : List (κ × Int)))).sum = 0 := by
      induction (ks.filter p) with
      | nil => rfl
      | cons k l ih => rw [List.map_cons, List.sum_cons, ih]; rfl
    rw [this]; rfl
  | z :: zs, h => by
    have ih := regroup (p := p) nd (zs := zs) fun y hy => h y (.tail _ hy)
    have e : (ks.filter p).map (atG (z :: zs)) = (ks.filter p).map fun k => (if z.1 = k then z.2 else 0) + atG zs k := List.map_congr_left fun k _ => atG_cons zs z k
    rw [e, sum_addf, sum_one nd, ih, List.filter_cons]
    by_cases hp : p z.1 = true
    · rw [if_pos ⟨h z (.head _), hp⟩, if_pos hp]; rfl
    · rw [if_neg fun q => hp q.2, if_neg hp, Int.zero_add]
end
theorem eqDI_of {za zb : List (Int × Int)} (h : ∀ k, valG (sumG za) k = valG (sumG zb) k) : eqDI (sumG za) (sumG zb) = true := by
  obtain ⟨na, ma⟩ := sum_keys za
  obtain ⟨nb, mb⟩ := sum_keys zb
  have keys : ∀ k, k ∈ (sumG za).map (·.1) ↔ k ∈ (sumG zb).map (·.1) := fun k => by
    rw [ma, mb]
    have := h k
    rw [sum_val, sum_val] at this
    by_cases h1 : k ∈ za.map (·.1) <;> by_cases h2 : k ∈ zb.map (·.1) <;> simp [h1, h2] at this ⊢
  have len := ((List.perm_ext_iff_of_nodup na nb).mpr keys).length_eq
  rw [List.length_map, List.length_map] at len
  unfold eqDI
  rw [len, beq_self_eq_true, Bool.true_and, List.all_eq_true]
  intro z hz
  have e : valI (sumG zb) z.1 = valG (sumG zb) z.1 := rfl
  rw [e, ← h, valG_mem na hz]
  exact beq_self_eq_true _
/-! ### the stream of a mix is one -/
theorem ltP_iff {x y : Int × Int} : ltP x y = true ↔ x.1 < y.1 ∨ (x.1 = y.1 ∧ x.2 < y.2) := by
  unfold ltP
  by_cases e : x.1 = y.1
  · rw [if_pos (by simpa using e)]
    by_cases e2 : x.2 = y.2
    · rw [if_pos (by simpa using e2)]
      exact ⟨fun h => by (cases h), fun h => by walk_at "om"⟩
    · rw [if_neg (by simpa using e2), decide_eq_true_iff]; omega
  · rw [if_neg (by simpa using e), decide_eq_true_iff]; omega
theorem ord_unique : ∀ {ks ls : List (Int × Int)}, OrdK ks → OrdK ls → (∀ k, k ∈ ks ↔ k ∈ ls) → ks = ls
  | [], [], _, _, _ => rfl
  | [], l :: ls, _, _, h => absurd ((h l).mpr (.head _)) (by simp)
  | k :: ks, [], _, _, h => absurd ((h k).mp (.head _)) (by simp)
  | k :: ks, l :: ls, o1, o2, h => by
    obtain ⟨n1, p1⟩ := o1
    obtain ⟨n2, p2⟩ := o2
    rw [List.nodup_cons] at n1 n2
    rw [List.pairwise_cons] at p1 p2
    have e : k = l := by
      rcases List.mem_cons.mp ((h k).mp (.head _)) with e | e
      · exact e
      · rcases List.mem_cons.mp ((h l).mpr (.head _)) with e' | e'
        · exact e'.symm
        · have a := ltP_iff.mp (p2.1 k e)
          have b := ltP_iff.mp (p1.1 l e')
          omega
    subst e
    rw [ord_unique ⟨n1.2, p1.2⟩ ⟨n2.2, p2.2⟩ fun z => ⟨fun hz => ?_, fun hz => ?_⟩]
    · rcases List.mem_cons.mp ((h z).mp (.tail _ hz)) with e | e
      · exact absurd (e ▸ hz) n1.1
      · exact e
    · rcases List.mem_cons.mp ((h z).mpr (.tail _ hz)) with e | e
      · exact absurd (e ▸ hz) n2.1
      · exact e
theorem RowIs.unique {ms : List (List Int × Int)} {i : Nat} {xs ys : List (Int × Int × Int)} (h1 : RowIs ms i xs) (h2 : RowIs ms i ys) : xs = ys := by
  obtain ⟨o1, k1, v1⟩ := h1
  obtain ⟨o2, k2, v2⟩ := h2
  have e := ord_unique o1 o2 fun k => (k1 k).trans (k2 k).symm
  apply List.ext_getElem?
  intro j
  have ej : (xs.map keyT)[j]? = (ys.map keyT)[j]? := by rw [e]
  rw [List.getElem?_map, List.getElem?_map] at ej
  cases ex : xs[j]? with
  | none =>
    rw [ex] at ej
    cases ey : ys[j]? with
    | none => rfl
    | some y => rw [ey] at ej; cases ej
  | some x =>
    rw [ex] at ej
    cases ey : ys[j]? with
    | none => rw [ey] at ej; cases ej
    | some y =>
      rw [ey] at ej
      have ek : keyT x = keyT y := Option.some.inj ej
      have a := v1 x (List.mem_of_getElem? ex)
      have b := v2 y (List.mem_of_getElem? ey)
      rw [ek, b] at a
      obtain ⟨x1, x2, x3⟩ := x
      obtain ⟨y1, y2, y3⟩ := y
      unfold keyT at ek
      cases ek
      have : y3 = x3 := Option.some.inj a
      rw [this]
theorem StmIs.unique {ms : List (List Int × Int)} {f : Nat} {xss yss : List (List (Int × Int × Int))} (h1 : StmIs ms f xss) (h2 : StmIs ms f yss) : xss = yss := by
  apply List.ext_getElem?
  intro i
  by_cases hi : i < f
  · have e1 : xss[i]? = some (xss[i]'(by rw [h1.1]; exact hi)) := List.getElem?_eq_getElem _
    have e2 : yss[i]? = some (yss[i]'(by rw [h2.1]; exact hi)) := List.getElem?_eq_getElem _
    rw [e1, e2, (h1.2 i _ e1).1.unique (h2.2 i _ e2).1]
  · rw [List.getElem?_eq_none (by rw [h1.1]; omega), List.getElem?_eq_none (by rw [h2.1]; omega)]
def triDat (z : Int × Int × Int) : PyData := .tuple [.int z.1, .int z.2.1, .int z.2.2]
def rowDat (xs : List (Int × Int × Int)) : PyData := .list (xs.map triDat)
def stmD (xss : List (List (Int × Int × Int))) : PyData := .list (xss.map rowDat)
theorem rowF_dat (xs : List (Int × Int × Int)) : rowF (rowDat xs) = xs := by
  unfold rowF rowDat
  show (xs.map triDat).map triD = xs
  rw [List.map_map]
  exact (List.map_congr_left fun x _ => rfl).trans (List.map_id _)
theorem sum_drop_ge {ns : List Int} (nn : ∀ n ∈ ns, 0 ≤ n) {i : Nat} (hi : i < ns.length) : 0 ≤ ns.getD i 0 ∧ ns.getD i 0 ≤ (ns.drop i).sum ∧ (ns.drop i).sum - ns.getD i 0 = (ns.drop (i + 1)).sum := by
  have e : ns.drop i = ns[i] :: ns.drop (i + 1) := List.drop_eq_getElem_cons hi
  have g : ns.getD i 0 = ns[i] := by rw [List.getD_eq_getElem?_getD, List.getElem?_eq_getElem hi]; rfl
  have z := (mem_le_sumI (ns := ns.drop (i + 1)) fun n hn => nn n (List.mem_of_mem_drop hn)).2
  rw [g, e, List.sum_cons]
  exact ⟨nn _ (List.getElem_mem hi), by walk_at "om", by walk_at "om"⟩
structure OkS (ms : List (List Int × Int)) (h : Int) (f : Nat) : Prop where
  ne : 1 ≤ ms.length
  f1 : 1 ≤ f
  all : ∀ x ∈ ms, (∀ n ∈ x.1, 0 ≤ n) ∧ x.1.length = f ∧ x.1.sum = h ∧ 1 ≤ x.2
theorem row_mem {ms : List (List Int × Int)} {i : Nat} {xs : List (Int × Int × Int)} (R : RowIs ms i xs) {z : Int × Int × Int} (hz : z ∈ xs) : ∃ x ∈ ms, z.1 = (x.1.drop i).sum ∧ z.2.1 = x.1.getD i 0 := by
  have : keyT z ∈ (sumG (flw ms i)).map (·.1) := (R.2.1 _).mp (List.mem_map.mpr ⟨z, hz, rfl⟩)
  rw [(sum_keys _).2, List.mem_map] at this
  obtain ⟨y, hy, ey⟩ := this
  unfold flw at hy
  obtain ⟨x, hx, rfl⟩ := List.mem_map.mp hy
  have ey : ((x.1.drop i).sum, x.1.getD i 0) = (z.1, z.2.1) := ey
  exact ⟨x, hx, (congrArg Prod.fst ey).symm, (congrArg Prod.snd ey).symm⟩
theorem row_flow {ms : List (List Int × Int)} {h : Int} {f i : Nat} {xs : List (Int × Int × Int)} (O : OkS ms h f) (hi : i < f) (R : RowIs ms i xs) {z : Int × Int × Int} (hz : z ∈ xs) : 0 ≤ z.2.1 ∧ z.2.1 ≤ z.1 ∧ z.2.2 = atG (flw ms i) (keyT z) ∧ 1 ≤ z.2.2 := by
  obtain ⟨x, hx, e1, e2⟩ := row_mem R hz
  obtain ⟨nn, xl, _, _⟩ := O.all x hx
  obtain ⟨a, b, _⟩ := sum_drop_ge nn (i := i) (by walk_at "om")
  have v := R.2.2 z hz
  rw [sum_val] at v
  have km : keyT z ∈ (flw ms i).map (·.1) := (sum_keys _).2 _ |>.mp ((R.2.1 _).mp (List.mem_map.mpr ⟨z, hz, rfl⟩))
  rw [if_pos km] at v
  have v := Option.some.inj v
  have w : ∀ y ∈ flw ms i, 1 ≤ y.2 := fun y hy => by
    unfold flw at hy
    obtain ⟨x, hx, rfl⟩ := List.mem_map.mp hy
    exact (O.all x hx).2.2.2
  have g := (atG_ge w (k := keyT z)).2 km
  exact ⟨by walk_at "om", by walk_at "om", v.symm, by walk_at "om"⟩
theorem row_ok {ms : List (List Int × Int)} {h : Int} {f i : Nat} {xs : List (Int × Int × Int)} (O : OkS ms h f) (hi : i < f) (R : RowIs ms i xs) : rowD (rowDat xs) = true := by
  show ((xs.map triDat).all flowD && incD (xs.map triDat)) = true
  rw [Bool.and_eq_true]
  constructor
  · rw [List.all_map, List.all_eq_true]
    intro z hz
    obtain ⟨a, b, _, c⟩ := row_flow O hi R hz
    show (decide ((0 : Int) ≤ z.1) && decide ((0 : Int) ≤ z.2.1 ∧ z.2.1 ≤ z.1) && decide ((1 : Int) ≤ z.2.2)) = true
    rw [decide_eq_true (show (0 : Int) ≤ z.1 by walk_at "om"), decide_eq_true (show (0 : Int) ≤ z.2.1 ∧ z.2.1 ≤ z.1 from ⟨a, b⟩), decide_eq_true c]; rfl
  · unfold incD
    rw [List.length_map, List.all_eq_true]
    intro j hj
    have hj := List.mem_range.mp hj
    have p := List.pairwise_iff_getElem.mp R.1.2 j (j + 1) (by rw [List.length_map]; omega) (by rw [List.length_map]; omega) (by walk_at "om")
    have g : ∀ (j : Nat) (hj : j < xs.length), keyD ((xs.map triDat).getD j .none) = (xs.map keyT)[j]'(by rw [List.length_map]; exact hj) := fun j hj => by
      rw [List.getD_eq_getElem?_getD, List.getElem?_map, List.getElem?_eq_getElem hj, List.getElem_map]; rfl
    rw [g j (by walk_at "om"), g (j + 1) (by walk_at "om")]
    exact p
theorem row_group {ms : List (List Int × Int)} {i : Nat} {xs : List (Int × Int × Int)} (R : RowIs ms i xs) (hv : ∀ z ∈ xs, z.2.2 = atG (flw ms i) (keyT z)) (g : Int × Int → Int) (k : Int) : valG (sumG (xs.map fun z => (g (keyT z), z.2.2))) k = valG (sumG ((flw ms i).map fun z => (g z.1, z.2))) k := by
  rw [sum_val, sum_val]
  have mem : k ∈ (xs.map fun z => (g (keyT z), z.2.2)).map (·.1) ↔ k ∈ ((flw ms i).map fun z => (g z.1, z.2)).map (·.1) := by
    rw [List.map_map, List.map_map, List.mem_map, List.mem_map]
    constructor
    · rintro ⟨z, hz, rfl⟩
      have := (sum_keys _).2 _ |>.mp ((R.2.1 _).mp (List.mem_map.mpr ⟨z, hz, rfl⟩))
      obtain ⟨y, hy, ey⟩ := List.mem_map.mp this
      exact ⟨y, hy, congrArg g ey⟩
    · rintro ⟨y, hy, rfl⟩
      have : y.1 ∈ xs.map keyT := (R.2.1 _).mpr ((sum_keys _).2 _ |>.mpr (List.mem_map.mpr ⟨y, hy, rfl⟩))
      obtain ⟨z, hz, ez⟩ := List.mem_map.mp this
      exact ⟨z, hz, congrArg g ez⟩
  have at1 : atG (xs.map fun z => (g (keyT z), z.2.2)) k = (((xs.map keyT).filter fun q => decide (g q = k)).map (atG (flw ms i))).sum := by
    unfold atG
    rw [List.filter_map, List.filter_map, List.map_map, List.map_map]
    refine congrArg List.sum (List.map_congr_left fun z hz => ?_)
    exact hv z (List.mem_filter.mp hz).1
  have at2 : atG ((flw ms i).map fun z => (g z.1, z.2)) k = (((flw ms i).filter fun z => decide (g z.1 = k)).map (·.2)).sum := by
    unfold atG
    rw [List.filter_map, List.map_map]
    rfl
  rw [at1, at2, regroup (p := fun q => decide (g q = k)) R.1.1 fun z hz => (R.2.1 _).mpr ((sum_keys _).2 _ |>.mpr (List.mem_map.mpr ⟨z, hz, rfl⟩))]
  by_cases h : k ∈ (xs.map fun z => (g (keyT z), z.2.2)).map (·.1)
  · rw [if_pos h, if_pos (mem.mp h)]
  · rw [if_neg h, if_neg fun q => h (mem.mpr q)]
theorem rows_meet {ms : List (List Int × Int)} {h : Int} {f i : Nat} {xs ys : List (Int × Int × Int)} (O : OkS ms h f) (hi : i + 1 < f) (R1 : RowIs ms i xs) (R2 : RowIs ms (i + 1) ys) : meetsD (rowDat xs) (rowDat ys) = true := by
  unfold meetsD
  rw [rowF_dat, rowF_dat]
  refine eqDI_of fun k => ?_
  have a := row_group R1 (fun z hz => (row_flow O (by walk_at "om") R1 hz).2.2.1) (fun q => q.1 - q.2) k
  have b := row_group R2 (fun z hz => (row_flow O hi R2 hz).2.2.1) (fun q => q.1) k
  have e : ((flw ms i).map fun z => (z.1.1 - z.1.2, z.2)) = (flw ms (i + 1)).map fun z => (z.1.1, z.2) := by
    unfold flw
    rw [List.map_map, List.map_map]
    refine List.map_congr_left fun x hx => ?_
    obtain ⟨nn, xl, _, _⟩ := O.all x hx
    obtain ⟨_, _, c⟩ := sum_drop_ge nn (i := i) (by walk_at "om")
    show ((x.1.drop i).sum - x.1.getD i 0, x.2) = ((x.1.drop (i + 1)).sum, x.2)
    rw [c]
  have a : valG (sumG (xs.map fun z => (z.1 - z.2.1, z.2.2))) k = valG (sumG ((flw ms i).map fun z => (z.1.1 - z.1.2, z.2))) k := a
  have b : valG (sumG (ys.map fun z => (z.1, z.2.2))) k = valG (sumG ((flw ms (i + 1)).map fun z => (z.1.1, z.2))) k := b
  rw [a, e, b]
theorem stm_ok {ms : List (List Int × Int)} {h : Int} {f : Nat} {xss : List (List (Int × Int × Int))} (O : OkS ms h f) (S : StmIs ms f xss) : streamD h f (stmD xss) = true := by
  have f1 := O.f1
  have gd : ∀ (i : Nat) (hi : i < xss.length), (xss.map rowDat).getD i .none = rowDat xss[i] := fun i hi => by
    rw [List.getD_eq_getElem?_getD, List.getElem?_map, List.getElem?_eq_getElem hi]; rfl
  have ri : ∀ (i : Nat) (hi : i < xss.length), RowIs ms i xss[i] := fun i hi => (S.2 i _ (List.getElem?_eq_getElem hi)).1
  have sl := S.1
  have l0 : 0 < xss.length := by walk_at "om"
  have r0 := ri 0 l0
  obtain ⟨x0, ex0⟩ : ∃ x, ms[0]? = some x := ⟨_, List.getElem?_eq_getElem (by have := O.ne; omega)⟩
  have n0 : 0 < (xss[0]).length := by
    have : ((x0.1.drop 0).sum, x0.1.getD 0 0) ∈ (xss[0]).map keyT := (r0.2.1 _).mpr ((sum_keys _).2 _ |>.mpr (by
      unfold flw
      rw [List.map_map]
      exact List.mem_map.mpr ⟨x0, List.mem_of_getElem? ex0, rfl⟩))
    obtain ⟨z, hz, _⟩ := List.mem_map.mp this
    exact List.length_pos_of_mem hz
  have items : itemsD (stmD xss) = xss.map rowDat := rfl
  unfold streamD
  rw [items]
  have b : beginsD (stmD xss) = true := by
    show (decide (0 < (xss.map rowDat).length) && rowD ((xss.map rowDat).getD 0 .none) && decide (0 < (itemsD ((xss.map rowDat).getD 0 .none)).length)) = true
    rw [gd 0 l0, List.length_map, decide_eq_true l0, row_ok O (by walk_at "om") r0]
    show (true && true && decide (0 < ((xss[0]).map triDat).length)) = true
    rw [List.length_map, decide_eq_true n0]; rfl
  have c1 : decide ((((xss.map rowDat).length : Nat) : Int) = (f : Int)) = true := decide_eq_true (by rw [List.length_map, sl])
  have c2 : (xss.map rowDat).all rowD = true := by
    rw [List.all_map, List.all_eq_true]
    intro xs hx
    obtain ⟨i, ei⟩ := List.getElem?_of_mem hx
    exact row_ok O (by have := (List.getElem?_eq_some_iff.mp ei).1; omega) (S.2 i xs ei).1
  have c3 : fullD h ((xss.map rowDat).getD 0 .none) = true := by
    rw [gd 0 l0]
    unfold fullD
    rw [rowF_dat, List.all_eq_true]
    intro z hz
    obtain ⟨x, hx, e1, _⟩ := row_mem r0 hz
    rw [e1, List.drop_zero]
    exact decide_eq_true (O.all x hx).2.2.1
  have c4 : goneD ((xss.map rowDat).getD ((xss.map rowDat).length - 1) .none) = true := by
    rw [List.length_map, gd (xss.length - 1) (by walk_at "om")]
    unfold goneD
    rw [rowF_dat, List.all_eq_true]
    intro z hz
    obtain ⟨x, hx, e1, e2⟩ := row_mem (ri _ (by walk_at "om")) hz
    obtain ⟨nn, xl, _, _⟩ := O.all x hx
    obtain ⟨_, _, c⟩ := sum_drop_ge nn (i := xss.length - 1) (by walk_at "om")
    rw [List.drop_of_length_le (i := xss.length - 1 + 1) (by walk_at "om")] at c
    have : ([] : List Int).sum = 0 := rfl
    rw [e1, e2]
    exact decide_eq_true (by walk_at "om")
  have c5 : meetAll (xss.map rowDat) = true := by
    unfold meetAll
    rw [List.length_map, List.all_eq_true]
    intro i hi
    have hi := List.mem_range.mp hi
    rw [gd i (by walk_at "om"), gd (i + 1) (by walk_at "om")]
    exact rows_meet O (by walk_at "om") (ri i (by walk_at "om")) (ri (i + 1) (by walk_at "om"))
  rw [b, c1, c2, c3, c4, c5]; rfl
-- @@split
/-! ### streams and mixes as data -/
theorem RwAt.shL {H : Hp} {p : Addr} {bs : List Addr} {xs : List (Int × Int × Int)} (R : RwAt H p bs xs) : ShL H (bs.map V.ref) (xs.map triDat) := ShL.idx (by rw [List.length_map, List.length_map, R.len]) fun i x d h1 h2 => by
  rw [List.getElem?_map] at h1 h2
  obtain ⟨b, eb, rfl⟩ := Option.map_eq_some_iff.mp h1
  obtain ⟨z, ez, rfl⟩ := Option.map_eq_some_iff.mp h2
  exact .tup (R.row i b z eb ez) (.cons (.int _) (.cons (.int _) (.cons (.int _) .nil)))
theorem RwAt.sh {H : Hp} {p : Addr} {bs : List Addr} {xs : List (Int × Int × Int)} (R : RwAt H p bs xs) : ShV H (.ref p) (rowDat xs) := .lst R.out R.shL
theorem StAt.sh {H : Hp} {p : Addr} {rs : List (Addr × List Addr)} {xss : List (List (Int × Int × Int))} (R : StAt H p rs xss) : ShV H (.ref p) (stmD xss) := .lst R.out (ShL.idx (by rw [List.length_map, List.length_map, R.len]) fun i x d h1 h2 => by
  rw [List.getElem?_map] at h1 h2
  obtain ⟨b, eb, rfl⟩ := Option.map_eq_some_iff.mp h1
  obtain ⟨z, ez, rfl⟩ := Option.map_eq_some_iff.mp h2
  exact ((R.row i b z eb ez).same (rm_same _ _)).sh)
def row7 (c : Bool) (xs : List (Int × Int × Int)) : PyData := .list (xs.map triDat ++ if c = true then [.int 7] else [])
theorem row7_F (xs : List (Int × Int × Int)) : row7 false xs = rowDat xs := by unfold row7 rowDat; rw [if_neg Bool.false_ne_true, List.append_nil]
theorem tri_ok (z : Int × Int × Int) : okD 1 (triDat z) := okD.tuple (n := 0) (by show 3 ≤ 1000; decide) fun d hd => by
  simp only [List.mem_cons, List.not_mem_nil, or_false] at hd
  rcases hd with rfl | rfl | rfl <;> exact ⟨rfl, rfl, Nat.zero_le _⟩
theorem row7_ok {c : Bool} {xs : List (Int × Int × Int)} (h : xs.length < 64) : okD 2 (row7 c xs) := okD.list (n := 1) (by rw [List.length_append, List.length_map]; split <;> simp <;> omega) fun d hd => by
  rcases List.mem_append.mp hd with hd | hd
  · obtain ⟨z, _, rfl⟩ := List.mem_map.mp hd; exact tri_ok z
  · split at hd
    · rw [List.mem_singleton.mp hd]; exact ⟨rfl, rfl, Nat.zero_le _⟩
    · cases hd
theorem rows_ok {c : Bool} {xss : List (List (Int × Int × Int))} (hl : xss.length < 64) (h : ∀ xs ∈ xss, xs.length < 64) : okD 3 (.list (xss.map (row7 c))) := okD.list (n := 2) (by rw [List.length_map]; omega) fun d hd => by
  obtain ⟨xs, hx, rfl⟩ := List.mem_map.mp hd
  exact row7_ok (h xs hx)
theorem stm_row7 (xss : List (List (Int × Int × Int))) : stmD xss = .list (xss.map (row7 false)) := by
  unfold stmD
  rw [List.map_congr_left fun xs _ => (row7_F xs).symm]
/-- a told stream while its rows are changed -/
structure TwAt (I : Hp) (t : Addr) (rs : List (Addr × List Addr)) (xss : List (List (Int × Int × Int))) (k : Nat) : Prop where
  out : I t = some (.lst (rs.map fun r => V.ref r.1))
  row : ∀ (i : Nat) r xs, rs[i]? = some r → xss[i]? = some xs → r.1 ≠ t ∧ I r.1 = some (.lst (r.2.map V.ref ++ if i < k then [V.int 7] else [])) ∧ r.2.length = xs.length ∧ ∀ (j : Nat) b x, r.2[j]? = some b → xs[j]? = some x → I b = some (.tup [.int x.1, .int x.2.1, .int x.2.2])
theorem TwAt.of {H : Hp} {t : Addr} {rs : List (Addr × List Addr)} {xss : List (List (Int × Int × Int))} (S : StAt H t rs xss) : TwAt H t rs xss 0 := ⟨S.out, fun i r xs e1 e2 => by
  have R := S.row i r xs e1 e2
  exact ⟨(rm_of R.out).1, by rw [if_neg (by walk_at "om"), List.append_nil]; exact rm_same _ _ _ _ R.out, R.len, fun j b x g1 g2 => rm_same _ _ _ _ (R.row j b x g1 g2)⟩⟩
theorem TwAt.same {I I' : Hp} {t : Addr} {rs : List (Addr × List Addr)} {xss : List (List (Int × Int × Int))} {k : Nat} (T : TwAt I t rs xss k) (s : Same I I') : TwAt I' t rs xss k := ⟨s _ _ T.out, fun i r xs e1 e2 => by
  obtain ⟨a, b, c, d⟩ := T.row i r xs e1 e2
  exact ⟨a, s _ _ b, c, fun j b x g1 g2 => s _ _ (d j b x g1 g2)⟩⟩
theorem TwAt.push {I I' : Hp} {t : Addr} {rs : List (Addr × List Addr)} {xss : List (List (Int × Int × Int))} {k : Nat} {r : Addr × List Addr} (T : TwAt I t rs xss k) (nd : (rs.map (·.1)).Nodup) (hl : rs.length = xss.length) (er : rs[k]? = some r) (c : Chg r.1 I I') (h : I' r.1 = some (.lst (r.2.map V.ref ++ [V.int 7]))) : TwAt I' t rs xss (k + 1) := by
  obtain ⟨xk, exk⟩ : ∃ xs, xss[k]? = some xs := ⟨_, List.getElem?_eq_getElem (by have := (List.getElem?_eq_some_iff.mp er).1; omega)⟩
  obtain ⟨ka, kb, _, _⟩ := T.row k r xk er exk
  refine ⟨c _ _ (Ne.symm ka) T.out, fun i r' xs e1 e2 => ?_⟩
  obtain ⟨a, b, l, d⟩ := T.row i r' xs e1 e2
  have tu : ∀ (j : Nat) b x, r'.2[j]? = some b → xs[j]? = some x → I' b = some (.tup [.int x.1, .int x.2.1, .int x.2.2]) := fun j b x g1 g2 => c _ _ (fun z => by
    have := d j b x g1 g2
    rw [z, kb] at this
    cases this) (d j b x g1 g2)
  by_cases hi : i = k
  · subst hi
    rw [er] at e1
    cases e1
    exact ⟨a, by rw [if_pos (by walk_at "om")]; exact h, l, tu⟩
  · have ne : r'.1 ≠ r.1 := fun z => by
      have g1 : (rs.map (·.1))[i]? = some r'.1 := by rw [List.getElem?_map, e1]; rfl
      have g2 : (rs.map (·.1))[k]? = some r.1 := by rw [List.getElem?_map, er]; rfl
      rw [← z] at g2
      exact hi ((List.getElem?_inj (List.getElem?_eq_some_iff.mp g1).1 nd).mp (g1.trans g2.symm))
    refine ⟨a, ?_, l, tu⟩
    have b' := c _ _ ne b
    by_cases h' : i < k
    · rw [if_pos h'] at b'
      rw [if_pos (by walk_at "om")]; exact b'
    · rw [if_neg h'] at b'
      rw [if_neg (by walk_at "om")]; exact b'
theorem TwAt.sh {I : Hp} {t : Addr} {rs : List (Addr × List Addr)} {xss : List (List (Int × Int × Int))} {k i : Nat} {r : Addr × List Addr} {xs : List (Int × Int × Int)} (T : TwAt I t rs xss k) (e1 : rs[i]? = some r) (e2 : xss[i]? = some xs) : ShV I (.ref r.1) (row7 (decide (i < k)) xs) := by
  obtain ⟨a, b, l, d⟩ := T.row i r xs e1 e2
  have sl : ShL I (r.2.map V.ref) (xs.map triDat) := ShL.idx (by rw [List.length_map, List.length_map, l]) fun j x y h1 h2 => by
    rw [List.getElem?_map] at h1 h2
    obtain ⟨b, eb, rfl⟩ := Option.map_eq_some_iff.mp h1
    obtain ⟨z, ez, rfl⟩ := Option.map_eq_some_iff.mp h2
    exact .tup (d j b z eb ez) (.cons (.int _) (.cons (.int _) (.cons (.int _) .nil)))
  unfold row7
  by_cases h : i < k
  · rw [if_pos h] at b
    rw [decide_eq_true h, if_pos rfl]
    exact .lst b (shl_app sl (.cons (.int 7) .nil))
  · rw [if_neg h] at b
    rw [decide_eq_false h, if_neg Bool.false_ne_true]
    exact .lst b (shl_app sl .nil)
/-! mixes -/
def partDat (x : List Int × Int) : PyData := .tuple [.list (x.1.map PyData.int), .int x.2]
def mixDat (ms : List (List Int × Int)) : PyData := .list (ms.map partDat)
theorem ints_sh {H : Hp} {p : Addr} {ns : List Int} (h : H p = some (.lst (ns.map V.int))) : ShV H (.ref p) (.list (ns.map PyData.int)) := .lst h (ShL.idx (by rw [List.length_map, List.length_map]) fun i x d h1 h2 => by
  rw [List.getElem?_map] at h1 h2
  obtain ⟨n, en, rfl⟩ := Option.map_eq_some_iff.mp h1
  rw [en] at h2
  cases h2
  exact .int n)
theorem MixAt.sh {H : Hp} {m : Addr} {ts : List (Addr × Addr)} {ms : List (List Int × Int)} (M : MixAt H m ts ms) : ShV H (.ref m) (mixDat ms) := .lst M.out (ShL.idx (by rw [List.length_map, List.length_map, M.len]) fun i x d h1 h2 => by
  obtain ⟨t, y, rfl, e1, e2, e3, e4⟩ := M.elt h1
  rw [List.getElem?_map, e2] at h2
  cases h2
  exact .tup e3 (.cons (ints_sh e4) (.cons (.int _) .nil)))
theorem msD_dat (ms : List (List Int × Int)) : msD (mixDat ms) = ms := by
  unfold msD mixDat
  show (ms.map partDat).map _ = ms
  rw [List.map_map]
  exact (List.map_congr_left fun x _ => by show (numsD (planOf (partDat x)), x.2) = x; unfold partDat; rw [numsD_plan]).trans (List.map_id _)
theorem first_dat {ms : List (List Int × Int)} {x : List Int × Int} (e : ms[0]? = some x) : firstP (ms.map partDat) = x.1 := by
  unfold firstP
  rw [getD_some (d := partDat x) (by rw [List.getElem?_map, e]; rfl)]
  exact numsD_plan x.1 x.2
theorem mixDat_ok {ms : List (List Int × Int)} {h : Int} {f : Nat} (O : OkS ms h f) (hh : 0 ≤ h ∧ h ≤ 40) (hf : f ≤ 8) : mixD (mixDat ms) = true ∧ fieldsD (mixDat ms) = f := by
  obtain ⟨x0, ex0⟩ : ∃ x, ms[0]? = some x := ⟨_, List.getElem?_eq_getElem (by have := O.ne; omega)⟩
  obtain ⟨_, l0, s0, _⟩ := O.all x0 (List.mem_of_getElem? ex0)
  have f1 := O.f1
  refine ⟨?_, by unfold fieldsD mixDat; show (firstP (ms.map partDat)).length = f; rw [first_dat ex0, l0]⟩
  unfold mixDat
  rw [mixD_list, first_dat ex0, l0, s0]
  have a1 : (ms.map partDat).all partD = true := by
    rw [List.all_map, List.all_eq_true]
    intro x hx
    obtain ⟨nn, _, _, w⟩ := O.all x hx
    show ((x.1.map PyData.int).all (fromD 0) && decide ((1 : Int) ≤ x.2)) = true
    rw [List.all_map, show x.1.all (fromD 0 ∘ PyData.int) = true from List.all_eq_true.mpr fun y hy => decide_eq_true (nn y hy), decide_eq_true w]; rfl
  have a2 : sizeD h f = true := by
    unfold sizeD
    rw [decide_eq_true hh, decide_eq_true (show (1 : Int) ≤ (f : Int) ∧ (f : Int) ≤ 8 by walk_at "om")]; rfl
  have a3 : ((ms.map partDat).all fun d => planD h f (planOf d)) = true := by
    rw [List.all_map, List.all_eq_true]
    intro x hx
    obtain ⟨nn, xl, xs, w⟩ := O.all x hx
    show (planD h f (planOf (partDat x))) = true
    unfold planD
    have e1 : sendsD (planOf (partDat x)) = true := by
      show (x.1.map PyData.int).all (fromD 0) = true
      rw [List.all_map]
      exact List.all_eq_true.mpr fun y hy => decide_eq_true (nn y hy)
    have e2 : numsD (planOf (partDat x)) = x.1 := numsD_plan x.1 x.2
    rw [e1, e2, decide_eq_true (show (x.1.length : Int) = (f : Int) by walk_at "om"), decide_eq_true xs]; rfl
  rw [decide_eq_true (show (ms.map partDat).length ≠ 0 by rw [List.length_map]; have := O.ne; omega), a1, a2, a3]; rfl
def trn (x : List Int × Int) : List Int × Int := (x.1.reverse, 2 * x.2)
theorem OkS.trn {ms : List (List Int × Int)} {h : Int} {f : Nat} (O : OkS ms h f) : OkS (ms.map G.trn) h f := ⟨by rw [List.length_map]; exact O.ne, O.f1, fun x hx => by
  obtain ⟨y, hy, rfl⟩ := List.mem_map.mp hx
  obtain ⟨nn, yl, ys, w⟩ := O.all y hy
  refine ⟨fun n hn => nn n (List.mem_reverse.mp hn), by show y.1.reverse.length = f; rw [List.length_reverse]; exact yl, ?_, by show (1 : Int) ≤ 2 * y.2; omega⟩
  show y.1.reverse.sum = h
  rw [List.sum_reverse]; exact ys⟩
theorem MixAt.offSelf {H : Hp} {m : Addr} {ts : List (Addr × Addr)} {ms : List (List Int × Int)} (M : MixAt H m ts ms) (h : ∀ x ∈ ms, 1 ≤ x.1.length) : Off m ts := fun t ht => by
  obtain ⟨i, hi⟩ := List.getElem?_of_mem ht
  obtain ⟨t', x, h1, h2, h3, h4⟩ := M.get (i := i) (by have := (List.getElem?_eq_some_iff.mp hi).1; have := M.len; omega)
  rw [hi] at h1
  cases h1
  refine ⟨fun z => ?_, fun z => ?_⟩
  · rw [z, M.out] at h3; cases h3
  · rw [z, M.out] at h4
    have e : (ts.map fun t => V.ref t.1) = x.1.map V.int := HO.lst.inj (Option.some.inj h4)
    have l := h x (List.mem_of_getElem? h2)
    cases ts with
    | nil => cases ht
    | cons t ts =>
      cases hx : x.1 with
      | nil => rw [hx] at l; simp at l
      | cons n ns => rw [hx] at e; simp at e
theorem MixAt.setP {H H' : Hp} {m p q : Addr} {ts : List (Addr × Addr)} {ms : List (List Int × Int)} {x : List Int × Int} {k : Nat} (M : MixAt H m ts ms) (hk : k < ms.length) (o : Off m ts) (c : Chg m H H') (h' : H' m = some (.lst ((ts.map fun t => V.ref t.1).set k (.ref p)))) (hp : H' p = some (.tup [.ref q, .int x.2])) (hq : H' q = some (.lst (x.1.map V.int))) : MixAt H' m (ts.set k (p, q)) (ms.set k x) := by
  refine ⟨by rw [h', List.map_set], by rw [List.length_set, List.length_set, M.len], fun i t y h1 h2 => ?_⟩
  rw [List.getElem?_set] at h1 h2
  by_cases hi : k = i
  · subst hi
    rw [if_pos rfl, if_pos (by rw [M.len]; exact hk)] at h1
    rw [if_pos rfl, if_pos hk] at h2
    cases h1
    cases h2
    exact ⟨hp, hq⟩
  · rw [if_neg hi] at h1 h2
    have := o t (List.mem_of_getElem? h1)
    exact ⟨c _ _ this.1 (M.part i t y h1 h2).1, c _ _ this.2 (M.part i t y h1 h2).2⟩
theorem Off.set {b p q : Addr} {ts : List (Addr × Addr)} {k : Nat} (o : Off b ts) (n1 : p ≠ b) (n2 : q ≠ b) : Off b (ts.set k (p, q)) := fun t ht => by
  rcases List.mem_or_eq_of_mem_set ht with h | h
  · exact o t h
  · subst h; exact ⟨n1, n2⟩
def trnK (ms : List (List Int × Int)) (k : Nat) : List (List Int × Int) := (ms.take k).map trn ++ ms.drop k
theorem trnK_all (ms : List (List Int × Int)) : trnK ms ms.length = ms.map trn := by unfold trnK; rw [List.take_length, List.drop_length, List.append_nil]
theorem trnK_len (ms : List (List Int × Int)) {k : Nat} (h : k ≤ ms.length) : (trnK ms k).length = ms.length := by unfold trnK; rw [List.length_append, List.length_map, List.length_take, List.length_drop]; omega
theorem trnK_at {ms : List (List Int × Int)} {k : Nat} {x : List Int × Int} (e : ms[k]? = some x) : (trnK ms k)[k]? = some x := by
  have hk := (List.getElem?_eq_some_iff.mp e).1
  unfold trnK
  rw [List.getElem?_append_right (by rw [List.length_map, List.length_take]; omega), List.length_map, List.length_take, List.getElem?_drop, show k + (k - min k ms.length) = k by walk_at "om"]
  exact e
theorem trnK_succ {ms : List (List Int × Int)} {k : Nat} {x : List Int × Int} (e : ms[k]? = some x) : (trnK ms k).set k (trn x) = trnK ms (k + 1) := by
  have hk := (List.getElem?_eq_some_iff.mp e).1
  apply List.ext_getElem?
  intro i
  rw [List.getElem?_set, trnK_len ms (by walk_at "om")]
  unfold trnK
  by_cases hi : k = i
  · subst hi
    rw [if_pos rfl, if_pos hk, List.getElem?_append_left (by rw [List.length_map, List.length_take]; omega), List.getElem?_map, List.getElem?_take, if_pos (by walk_at "om"), e]; rfl
  · rw [if_neg hi]
    by_cases h : i < k
    · rw [List.getElem?_append_left (by rw [List.length_map, List.length_take]; omega), List.getElem?_append_left (by rw [List.length_map, List.length_take]; omega), List.getElem?_map, List.getElem?_map, List.getElem?_take, List.getElem?_take, if_pos h, if_pos (by walk_at "om")]
    · rw [List.getElem?_append_right (by rw [List.length_map, List.length_take]; omega), List.getElem?_append_right (by rw [List.length_map, List.length_take]; omega), List.length_map, List.length_map, List.length_take, List.length_take, List.getElem?_drop, List.getElem?_drop]
      congr 1
      omega
-- @@split
def spLaw (K : PySem.W.Frag) : Sp := fun vs H Q _ => ∃ (a : Addr) (ns : List Int), vs = [.ref a] ∧ SqL K H a (ns.map V.int) ∧ ns.length ≤ 63 ∧ ∀ H', Q (.bl true) H'
theorem script_len40 {ns : List Int} (h : ns.length ≤ 63) : [V.int 0].length + (cutV (ns.map V.int) none (some 40)).length ≤ sizeLine := by
  rw [cut_takeV (by decide), List.length_take, List.length_map, sizeLine_eq, List.length_singleton]; omega
theorem script_int40 {ns : List Int} {i : Nat} {x : V} (h : ([V.int 0] ++ cutV (ns.map V.int) none (some 40))[i]? = some x) : ∃ z, x = .int z := by
  rw [cut_takeV (by decide)] at h
  rcases List.mem_append.mp (List.mem_of_getElem? h) with h | h
  · exact ⟨0, by simpa using h⟩
  · obtain ⟨z, _, rfl⟩ := List.mem_map.mp (List.mem_of_mem_take h)
    exact ⟨z, rfl⟩
set_option maxHeartbeats 0 in
theorem ok_law {f : Addr} {fd : FuncData} (F : Fun K "law" "law" s_law f fd) (N : Nm mg) (D__law_bent : Def P w K mg base CX0 3 "_law_bent" ["_law_left_here", "_law_mix_here"] sp__law_bent) (D__law_deep : Def P w K mg base CX0 10 "_law_deep" ["_law_thing"] sp__law_deep) (D__law_draw : Def P w K mg base CX0 2 "_law_draw" ["_law_left_here", "_law_base"] sp__law_draw) (D__law_flows : Def P w K mg base CX0 1 "_law_flows" ["_law_mix_here"] sp__law_flows) (D__law_is_mix : Def P w K mg base CX0 1 "_law_is_mix" ["_law_mix_here"] sp__law_is_mix) (D__law_left : Def P w K mg base CX0 2 "_law_left" ["_law_script", "_law_k"] sp__law_left) (D__law_lot : Def P w K mg base CX0 4 "_law_lot" ["_law_left_here", "_law_most", "_law_fields", "_law_parts"] sp__law_lot) (D__law_refused : Def P w K mg base CX0 8 "_law_refused" ["_law_mix_here"] sp__law_refused) (D_is_stream : Def P w K mg base CX0 7 "is_stream" ["hosts", "fields", "stream"] sp_is_stream) (D_stream_of : Def P w K mg base (CXR P w) 7 "stream_of" ["mix"] (sp_stream_of a_NoMix)) : FnOk P w K mg base CX0 11 f fd ["_law_script"] (spLaw K) := by
  refine F.ok sc_law (fun vs H Q E h => by obtain ⟨n, k, rfl, _⟩ := h; rfl) (fun cdv A outer s H vs Q E hr h => ?_)
  obtain ⟨a, ns0, rfl, hS, hlen, k⟩ := h
  have hu := hu40 hr
  refine ⟨_, (pss_cons (psFor PassesOwn.never rfl (piSeqK (K := K) rfl (pe_op oAdd (peLst (pa_cons pe_int pa_nil)) (pe_slice (slXK (K := K) rfl) (pq 0) po_none (poSome pe_int)))) (pg_name (i := 1) sc_law.nd rfl (by first | exact Or.inl rfl | exact Or.inr rfl)) (pss_cons (psS (i := 2) sc_law.nd (pD D__law_left hr pass0 (pa_cons (peLst (pa_cons (pq 1) pa_nil)) (pa_cons pe_int pa_nil))))
      (pss_cons (psS (i := 3) sc_law.nd (pD D__law_bent hr pass0 (pa_cons (pq 2) (pa_cons (pD D__law_lot hr pass0 (pa_cons (pq 2) (pa_cons (peIxK (K := K) rfl (peLst (pa_cons pe_int (pa_cons pe_int pa_nil))) (pD D__law_draw hr pass0 (pa_cons (pq 2) (pa_cons pe_int pa_nil)))) (pa_cons pe_int (pa_cons pe_int pa_nil))))) pa_nil))))
      (pss_cons (psS (i := 4) sc_law.nd (pD D__law_deep hr pass0 (pa_cons (pq 3) pa_nil)))
      (pss_one (psIf (ptV (pD D__law_is_mix hr pass0 (pa_cons (pq 3) pa_nil))) (pss_cons (psS (i := 5) sc_law.nd (pD D__law_flows hr pass0 (pa_cons (pq 3) pa_nil)))
      (pss_cons (psFor PassesOwn.never rfl (piRng1 N.range_ (pa_cons pe_int pa_nil)) (pg_name (i := 6) sc_law.nd rfl (by first | exact Or.inl rfl | exact Or.inr rfl)) (pss_cons (psS (i := 7) sc_law.nd (pD D_stream_of hr passR0 (pa_cons (pq 4) pa_nil)))
      (pss_cons (psIf (ptW (pwOr (ptC (oNeXK (K := K) rfl (by exact hu)) (pq 7) (pq 5)) (pwOr (ptC (oNeXK (K := K) rfl (by exact hu)) (pq 4) (pq 3)) (pw_or1 (ptC oIsNotX (pD D_is_stream hr pass0 (pa_cons (pB (cSumK (K := K) rfl rfl) N.sum_ bt_sum (pa_cons (peIxK (K := K) rfl (peIxK (K := K) rfl (pq 3) pe_int) pe_int) pa_nil)) (pa_cons (pB (cLenK (K := K) rfl) N.len_ bt_len (pa_cons (peIxK (K := K) rfl (peIxK (K := K) rfl (pq 3) pe_int) pe_int) pa_nil)) (pa_cons (pq 7) pa_nil)))) pe_bl))))) (pss_one (ps_ret pe_bl)) pss_nil)
      (pss_cons (psFor PassesOwn.never rfl (piRng1 N.range_ (pa_cons (pB (cLenK (K := K) rfl) N.len_ bt_len (pa_cons (pq 7) pa_nil)) pa_nil)) (pg_name (i := 8) sc_law.nd rfl (by first | exact Or.inl rfl | exact Or.inr rfl)) (pss_cons (ps_expr (peM_append (peIxK (K := K) rfl (pq 7) (pq 8)) (pa_cons pe_int pa_nil)))
      (pss_one (psIf (ptW (pwOr (ptC (oNeXK (K := K) rfl (by exact hu)) (pe_slice (slXK (K := K) rfl) (pq 7) (poSome (pe_op oAdd (pq 8) pe_int)) po_none) (pe_slice (slXK (K := K) rfl) (pq 5) (poSome (pe_op oAdd (pq 8) pe_int)) po_none)) (pw_or1 (ptC (oNeXK (K := K) rfl (by exact hu)) (pe_slice (slXK (K := K) rfl) (pq 7) po_none (poSome (pq 8))) (peComp (N := ["_law_row"]) (ks := [none]) (piSeqK (K := K) rfl (pe_slice (slXK (K := K) rfl) (pq 5) po_none (poSome (pq 8)))) (fun cl C s3 H3 fp => (pg_name (i := 0) nb_17 rfl (by first | exact Or.inl rfl | exact Or.inr rfl))) (fun cl C s3 H3 fp => pts_nil) (fun cl C s3 H3 fp => (pe_op oAdd (pq 0) (peLst (pa_cons pe_int pa_nil)))) (.skip .nil)))))) (pss_one (ps_ret pe_bl)) pss_nil))))
      (pss_one (ps_expr (peM_pop (K := K) rfl (pq 7))))))))
      (pss_cons (psS (i := 9) sc_law.nd (pD D_stream_of hr passR0 (pa_cons (pq 4) pa_nil)))
      (pss_cons (psFor PassesOwn.never rfl (piRng1 N.range_ (pa_cons (pB (cLenK (K := K) rfl) N.len_ bt_len (pa_cons (pq 4) pa_nil)) pa_nil)) (pg_name (i := 8) sc_law.nd rfl (by first | exact Or.inl rfl | exact Or.inr rfl)) (pss_one (ps_asg (peTup (pa_cons (peRv (K := K) rfl (peIxK (K := K) rfl (peIxK (K := K) rfl (pq 4) (pq 8)) pe_int)) (pa_cons (pe_op oMul pe_int (peIxK (K := K) rfl (peIxK (K := K) rfl (pq 4) (pq 8)) pe_int)) pa_nil))) (pg_sub (pq 4) (pq 8) setM))))
      (pss_one (psIf (ptW (pwOr (ptC (oNeXK (K := K) rfl (by exact hu)) (pD D_stream_of hr passR0 (pa_cons (pq 4) pa_nil)) (pD D__law_flows hr pass0 (pa_cons (pq 4) pa_nil))) (pw_or1 (ptC (oNeXK (K := K) rfl (by exact hu)) (pq 9) (pq 5))))) (pss_one (ps_ret pe_bl)) pss_nil)))))) (pss_one (psIf (ptW (pwOr (pt_not (ptV (pD D__law_refused hr pass0 (pa_cons (pq 4) pa_nil)))) (pw_or1 (ptC (oNeXK (K := K) rfl (by exact hu)) (pq 4) (pq 3))))) (pss_one (ps_ret pe_bl)) pss_nil))))))))
      (pss_one (ps_ret pe_bl))), ?_⟩
  refine newL_rd (fun p1 H1 hf1 hs1 ha1 => ?_)
  refine slL_rd (hs1.seq hS) (fun p2 H2 hf2 hs2 ha2 => ?_)
  refine cat_rd (hs2 _ _ ha1) ha2 (script_len40 hlen) (fun p3 H3 hf3 hs3 ha3 => ?_)
  refine iterL_rd ha3 ?_
  refine loop_list (xs := [V.int 0] ++ cutV (ns0.map V.int) none (some 40)) (fun i σ H4 => ∃ x1 x2 x3 x4 x5 x6 x7 x8 x9 : Option V, σ = [some (.ref a), x1, x2, x3, x4, x5, x6, x7, x8, x9] ∧ Same H3 H4) ?_ ?_ ?_ ?_
  · exact ⟨_, _, _, _, _, _, _, _, _, rfl, Same.refl _⟩
  · rintro i σ H4 _ ⟨_, _, _, _, _, _, _, _, _, _, h⟩
    exact SqL.of (h _ _ ha3)
  · rintro i x σ H4 hi ⟨x1, x2, x3, x4, x5, x6, x7, x8, x9, rfl, s4⟩
    obtain ⟨z, rfl⟩ := script_int40 hi
    refine newL_rd (fun c5 H5 f5 s5 h5 => ?_)
    refine left_rd h5 (fun pl H6 f6 s6 L6 => ?_)
    have fpl : H3 pl = none := (s4.trans s5).free f6
    have s36 : Same H3 H6 := (s4.trans s5).trans s6
    refine newL_rd (fun q7 H7 f7 s7 h7 => ?_)
    refine draw_rd (L6.same s7) (by walk_at "om") (by walk_at "om") (by walk_at "om") (fun d8 H8 d80 d81 c8 L8 => ?_)
    have h78 := c8 _ _ (L6.ne f7) h7
    refine ixAny_rd h78 (by walk_at "om") (by simp only [List.length_cons, List.length_nil]; omega) ?_
    intro v hv
    obtain ⟨t, rfl, ht⟩ : ∃ t : Nat, v = .int t ∧ t ≤ 40 := by
      simp only [List.mem_cons, List.not_mem_nil, or_false] at hv
      rcases hv with rfl | rfl
      · exact ⟨10, rfl, by walk_at "om"⟩
      · exact ⟨40, rfl, by walk_at "om"⟩
    clear hv h78 h7
    have s38 : Same H3 H8 := (s36.trans s7).chg fpl c8
    refine lot_rd L8 (by walk_at "om") ht (fun h f m0 ts0 ms0 H9 f9 c9 L9 n9 M9 O9 _ hf9 ml9 ok9 => ?_)
    have s39 := s38.chg fpl c9
    refine bent_rd L9 (by walk_at "om") M9 n9 O9 ml9 (fun x hx => by have := (ok9 x hx).1.2.1; omega) (fun mv H10 c10 R10 => ?_)
    have s310 := s39.chg fpl c10
    obtain ⟨d, hd, od, il0⟩ := R10
    clear M9 L9 L8 L6 c10 c9 O9 ok9 s39 s38 s36 s5 s6 h5
    refine deepD_rd hd od.1 (Nat.le_trans od.2.2 (by decide)) (fun hv H11 s11 N11 => ?_)
    have hd11 := hd.same s11
    refine mixL_rd hd11 od.1 (fun H12 s12 => ?_)
    have N12 : ShV (nw H10 H12) hv d := N11.same (nw_up s12)
    have hd12 := hd11.same s12
    have s312 := (s310.trans s11).trans s12
    have ee : d.eqv d = true := od.eqv
    cases em : mixD d
    · -- no mix
      refine br_F ?_
      refine refused_rd (N12.same (nw_same _ _)) od.1 em (fun H13 s13 => ?_)
      refine br_not (br_T ?_)
      have nn := (N12.same (nw_same _ _)).same s13
      have mh := hd12.same s13
      have nn2 := nn
      have mh2 := mh
      have s313 := s312.trans s13
      have dep : d.depth ≤ 40 := Nat.le_trans od.2.2 (by decide)
      have can := od.2.1
      clear N12 N11 hd hd11 hd12 od il0 em s312 s13
      cases nn <;> cases mh
      all_goals first
        | (refine eqS_rd nn2 mh2 can can dep ?_
           rw [ee]
           refine br_F ?_
           walk_at "wh"
           exact ⟨_, _, _, _, _, _, _, _, _, rfl, s313⟩)
        | (walk_at "wh"
           rw [decide_eq_true rfl]
           refine br_F ?_
           walk_at "wh"
           exact ⟨_, _, _, _, _, _, _, _, _, rfl, s313⟩)
    refine br_T ?_
    obtain ⟨mm, tsm, rfl, Mm, ml1, hh, hf, ok⟩ := mixAt_of hd12 em
    obtain ⟨hm, tsh, rfl, Mh, _⟩ := mixAt_of N12 em
    have il : (itemsD d).length < 64 := by walk_at "om"
    have ml2 : (msD d).length < 64 := by unfold msD; rw [List.length_map]; exact il
    generalize ems : msD d = ms at Mm Mh ml1 ml2 ok
    generalize efs : fieldsD d = f at ok hf
    generalize ehs : hostsD d = hs at ok hh
    have O : OkS ms hs f := ⟨ml1, by walk_at "om", ok⟩
    have xlen : ∀ x ∈ ms, x.1.length = f := fun x hx => (ok x hx).2.1
    refine flows_rd Mm ml1 ml2 (by walk_at "om") xlen (fun du rsD xss H13 s13 SD SI => ?_)
    have s313 := s312.trans s13
    have xb : xss.length < 64 ∧ ∀ xs ∈ xss, xs.length < 64 := ⟨by rw [SI.1]; omega, fun xs hx => by
      obtain ⟨i, ei⟩ := List.getElem?_of_mem hx
      have := (SI.2 i xs ei).2
      omega⟩
    have ost : okD 3 (stmD xss) := by rw [stm_row7]; exact rows_ok xb.1 xb.2
    have SDn := SD
    have SD := SD.same (nw_same _ _)
    have Mm13 := Mm.same s13
    have hd13 := hd12.same s13
    have Nh13 := (N12.same (nw_same _ _)).same s13
    obtain ⟨x0, ex0⟩ : ∃ x, ms[0]? = some x := ⟨_, List.getElem?_eq_getElem (by walk_at "om")⟩
    obtain ⟨_, x0l, x0s, _⟩ := ok x0 (List.mem_of_getElem? ex0)
    refine range_rd (by decide) (by decide) (by decide) (by decide) ?_
    refine loop_range (fun i σ I => ∃ x6 x7 x8 x9 : Option V, σ = [some (.ref a), some (.int z), some (.ref pl), some (.ref mm), some (.ref hm), some (.ref du), x6, x7, x8, x9] ∧ Same H13 I) ?_ ?_ ?_
    · exact ⟨_, _, _, _, rfl, Same.refl _⟩
    · rintro i σ I _ ⟨y6, y7, y8, y9, rfl, sI⟩
      have MmI := Mm13.same sI
      refine stream_of_rd (Nh13.same sI) od.1 (fun _ => ⟨il, fun to rsT yss I1 s1 ST SIT => ?_⟩) (fun e => by rw [em] at e; cases e)
      rw [ems, efs] at SIT
      obtain rfl := SIT.unique SI
      have ST1 := ST.same (nw_same _ _)
      have sI1 := sI.trans s1
      refine eqS_rd ST1.sh (SD.same sI1).sh ost.2.1 ost.2.1 (Nat.le_trans ost.2.2 (by decide)) ?_
      rw [ost.eqv]
      refine br_F ?_
      refine eqS_rd (Nh13.same sI1) (hd13.same sI1) od.2.1 od.2.1 (Nat.le_trans od.2.2 (by decide)) ?_
      rw [ee]
      refine br_F ?_
      have MmI1 := MmI.same s1
      obtain ⟨t0, et0, at0, ht0, hp0⟩ := MmI1.ix ex0
      refine ixL_rd (v := .ref t0.1) MmI1.out at0 ?_
      refine ixT_rd (v := .ref t0.2) ht0 rfl ?_
      refine sum_rd hp0 ?_
      rw [x0s]
      refine ixL_rd (v := .ref t0.1) MmI1.out at0 ?_
      refine ixT_rd (v := .ref t0.2) ht0 rfl ?_
      refine lenL_rd hp0 ?_
      rw [List.length_map, x0l]
      refine streamD_rd ST1.sh ost.1 (fun I2 s2 => ?_)
      rw [stm_ok O SI]
      refine br_F ?_
      have T2 : TwAt I2 to rsT yss 0 := (TwAt.of ST1).same s2
      have s02 : Same H13 I2 := sI1.trans s2
      have fto : I to = none := (nw_of ST.out).1
      have frs : ∀ r ∈ rsT, I r.1 = none := fun r hr => by
        obtain ⟨i, ei⟩ := List.getElem?_of_mem hr
        obtain ⟨xs, ex⟩ : ∃ xs, yss[i]? = some xs := ⟨_, List.getElem?_eq_getElem (by have := (List.getElem?_eq_some_iff.mp ei).1; have := ST.len; omega)⟩
        exact (nw_of (rm_of (ST.row i r xs ei ex).out).2).1
      have rl := ST.len
      refine lenL_rd T2.out ?_
      rw [List.length_map, rl, SI.1]
      refine range_rd (by walk_at "om") (by walk_at "om") (by walk_at "om") (by walk_at "om") ?_
      refine loop_range (fun k σ J => ∃ x8 : Option V, σ = [some (.ref a), some (.int z), some (.ref pl), some (.ref mm), some (.ref hm), some (.ref du), some (.int (0 + (i : Int))), some (.ref to), x8, y9] ∧ Same I J ∧ TwAt J to rsT yss k) ?_ ?_ ?_
      · exact ⟨_, rfl, s1.trans s2, T2⟩
      · rintro k σ J hk ⟨_, rfl, sJ, TJ⟩
        have hk : k < f := by walk_at "om"
        obtain ⟨r, er⟩ : ∃ r, rsT[k]? = some r := ⟨_, List.getElem?_eq_getElem (by rw [rl, SI.1]; exact hk)⟩
        obtain ⟨xk, exk⟩ : ∃ r, yss[k]? = some r := ⟨_, List.getElem?_eq_getElem (by rw [SI.1]; exact hk)⟩
        obtain ⟨nr, hr1, _, _⟩ := TJ.row k r xk er exk
        rw [if_neg (by walk_at "om"), List.append_nil] at hr1
        have rb : r.2.length < 64 := by have := (TJ.row k r xk er exk).2.2.1; have := xb.2 xk (List.mem_of_getElem? exk); omega
        refine ixL_rd (v := .ref r.1) TJ.out (by rw [Int.zero_add]; exact atI_nat (j := k) (by rw [List.getElem?_map, er]; rfl)) ?_
        refine lst_is hr1 ?_
        refine app_rd hr1 (by rw [List.length_map, sizeLine_eq]; omega) (fun J1 c1 h1 => ?_)
        have T1 := TJ.push ST.nd rl er c1 h1
        have sJ1 : Same I J1 := sJ.chg (frs r (List.mem_of_getElem? er)) c1
        have SD1 := SD.same (sI.trans sJ1)
        refine slL_rd (SqL.of T1.out) (fun p2 J2 f2 y2 k2 => ?_)
        rw [cut_drop (by walk_at "om"), show ((0 : Int) + (k : Int) + 1).toNat = k + 1 by walk_at "om"] at k2
        refine slL_rd (SqL.of (y2 _ _ SD1.out)) (fun p3 J3 f3 y3 k3 => ?_)
        rw [cut_drop (by walk_at "om"), show ((0 : Int) + (k : Int) + 1).toNat = k + 1 by walk_at "om"] at k3
        have T3 := (T1.same y2).same y3
        have SD3 := (SD1.same y2).same y3
        have dt : ShV J3 (.ref p2) (.list ((yss.drop (k + 1)).map (row7 false))) := .lst (y3 _ _ k2) (ShL.idx (by rw [List.length_drop, List.length_map, List.length_map, List.length_drop, rl]) fun j x y g1 g2 => by
          rw [List.getElem?_drop, List.getElem?_map] at g1
          rw [List.getElem?_map, List.getElem?_drop] at g2
          obtain ⟨r', er', rfl⟩ := Option.map_eq_some_iff.mp g1
          obtain ⟨xs, exs, rfl⟩ := Option.map_eq_some_iff.mp g2
          have := T3.sh er' exs
          rw [decide_eq_false (by walk_at "om")] at this
          exact this)
        have dd : ShV J3 (.ref p3) (.list ((yss.drop (k + 1)).map (row7 false))) := .lst k3 (ShL.idx (by rw [List.length_drop, List.length_map, List.length_map, List.length_drop, SD.len]) fun j x y g1 g2 => by
          rw [List.getElem?_drop, List.getElem?_map] at g1
          rw [List.getElem?_map, List.getElem?_drop] at g2
          obtain ⟨r', er', rfl⟩ := Option.map_eq_some_iff.mp g1
          obtain ⟨xs, exs, rfl⟩ := Option.map_eq_some_iff.mp g2
          rw [row7_F]
          exact ((SD3.row _ r' xs er' exs).same (rm_same _ _)).sh)
        have od1 : okD 3 (.list ((yss.drop (k + 1)).map (row7 false))) := rows_ok (by rw [List.length_drop]; have := xb.1; omega) fun xs hx => xb.2 xs (List.mem_of_mem_drop hx)
        refine eqS_rd dt dd od1.2.1 od1.2.1 (Nat.le_trans od1.2.2 (by decide)) ?_
        rw [od1.eqv]
        refine br_F ?_
        refine slL_rd (SqL.of T3.out) (fun p4 J4 f4 y4 k4 => ?_)
        rw [cut_takeV (by walk_at "om"), show ((0 : Int) + (k : Int)).toNat = k by walk_at "om"] at k4
        refine slL_rd (SqL.of (y4 _ _ SD3.out)) (fun p5 J5 f5 y5 k5 => ?_)
        rw [cut_takeV (by walk_at "om"), show ((0 : Int) + (k : Int)).toNat = k by walk_at "om"] at k5
        have SD5 := (SD3.same y4).same y5
        have lD := SD.len
        have lt : ((rsD.map fun r => V.ref r.1).take k).length = k := by rw [List.length_take, List.length_map, lD, SI.1]; omega
        refine iterL_rd k5 ?_
        refine comp_F (Wk.list (SqL.of k5)) (by rw [lt, sizeLine_eq]; omega) (fun j => .lst (((rsD.getD j (0, [])).2).map V.ref ++ [.int 7])) (fun j σ => ∃ t : Option V, σ = [t]) ⟨none, rfl⟩ ?_ ?_
        · rintro j v σ J6 R' S' hj s6 hx ⟨t, rfl⟩ kk
          rw [lt] at hj
          rw [List.getElem?_take, if_pos hj, List.getElem?_map] at hx
          obtain ⟨r', er', rfl⟩ := Option.map_eq_some_iff.mp hx
          rw [show rsD.getD j (0, []) = r' by rw [List.getD_eq_getElem?_getD, er']; rfl] at kk
          obtain ⟨xs, exs⟩ : ∃ xs, yss[j]? = some xs := ⟨_, List.getElem?_eq_getElem (by rw [SI.1]; omega)⟩
          have R6 := ((SD5.row j r' xs er' exs).same (rm_same _ _)).same s6
          have rb' := xb.2 xs (List.mem_of_getElem? exs)
          refine br_T ?_
          refine newL_rd (fun p7 J7 f7 y7 k7 => ?_)
          refine cat_rd (y7 _ _ R6.out) k7 (by rw [List.length_map, List.length_singleton, sizeLine_eq, R6.len]; omega) (fun p8 J8 f8 y8 k8 => ?_)
          walk_at "wh"
          exact kk _ _ _ (y7.free f8) (y7.trans y8) k8 ⟨_, rfl⟩
        intro ac ps J6 F6
        rw [lt] at F6
        have F6l := F6.len
        have T6 := ((T3.same y4).same y5).same F6.same
        have SD6 := SD5.same F6.same
        have dt2 : ShV J6 (.ref p4) (.list ((yss.take k).map (row7 true))) := .lst (F6.same _ _ (y5 _ _ k4)) (ShL.idx (by rw [List.length_take, List.length_map, List.length_map, List.length_take, rl]) fun j x y g1 g2 => by
          by_cases hj : j < k
          · rw [List.getElem?_take, if_pos hj, List.getElem?_map] at g1
            rw [List.getElem?_map, List.getElem?_take, if_pos hj] at g2
            obtain ⟨r', er', rfl⟩ := Option.map_eq_some_iff.mp g1
            obtain ⟨xs, exs, rfl⟩ := Option.map_eq_some_iff.mp g2
            have := T6.sh er' exs
            rw [decide_eq_true (by walk_at "om")] at this
            exact this
          · rw [List.getElem?_take, if_neg hj] at g1
            cases g1)
        have dd2 : ShV J6 (.ref ac) (.list ((yss.take k).map (row7 true))) := .lst F6.out (ShL.idx (by rw [List.length_map, List.length_map, List.length_take, F6l, SI.1]; omega) fun j x y g1 g2 => by
          rw [List.getElem?_map] at g1
          obtain ⟨q, eq, rfl⟩ := Option.map_eq_some_iff.mp g1
          have hj : j < k := by have := (List.getElem?_eq_some_iff.mp eq).1; omega
          rw [List.getElem?_map, List.getElem?_take, if_pos hj] at g2
          obtain ⟨xs, exs, rfl⟩ := Option.map_eq_some_iff.mp g2
          obtain ⟨r', er'⟩ : ∃ r, rsD[j]? = some r := ⟨_, List.getElem?_eq_getElem (by have := (List.getElem?_eq_some_iff.mp exs).1; omega)⟩
          have h6 := (F6.row j q eq).2
          rw [show rsD.getD j (0, []) = r' by rw [List.getD_eq_getElem?_getD, er']; rfl] at h6
          unfold row7
          rw [if_pos rfl]
          exact .lst h6 (shl_app ((SD6.row j r' xs er' exs).same (rm_same _ _)).shL (.cons (.int 7) .nil)))
        have od2 : okD 3 (.list ((yss.take k).map (row7 true))) := rows_ok (by rw [List.length_take]; have := xb.1; omega) fun xs hx => xb.2 xs (List.mem_of_mem_take hx)
        refine eqS_rd dt2 dd2 od2.2.1 od2.2.1 (Nat.le_trans od2.2.2 (by decide)) ?_
        rw [od2.eqv]
        refine br_F ?_
        walk_at "wh"
        exact ⟨_, rfl, (((sJ1.trans y2).trans y3).trans y4).trans (y5.trans F6.same), T6⟩
      · rintro σ J ⟨_, rfl, sJ, TJ⟩
        obtain ⟨rl', erl'⟩ : ∃ r, rsT[rsT.length - 1]? = some r := ⟨_, List.getElem?_eq_getElem (by rw [rl, SI.1]; omega)⟩
        refine lst_is TJ.out ?_
        refine pop_rd (y := .ref rl'.1) TJ.out (by rw [List.length_map, List.getElem?_map, erl']; rfl) (fun J1 c1 h1 => ?_)
        walk_at "wh"
        exact ⟨_, _, _, _, rfl, sI.trans (sJ.chg fto c1)⟩
    · rintro σ I ⟨x6, x7, x8, x9, rfl, sI⟩
      have s3I := s313.trans sI
      refine stream_of_rd (Nh13.same sI) od.1 (fun _ => ⟨il, fun fi rsT yss I1 s1 ST SIT => ?_⟩) (fun e => by rw [em] at e; cases e)
      rw [ems, efs] at SIT
      obtain rfl := SIT.unique SI
      have sI1 := sI.trans s1
      have Mh1 : MixAt I1 hm tsh ms := ((Mh.same (nw_same _ _)).same s13).same sI1
      have fhm : H10 hm = none := (nw_of Mh.out).1
      have hh12 : H12 hm = some _ := (nw_of Mh.out).2
      have hhI : I hm = some _ := sI _ _ (s13 _ _ hh12)
      have SF : StAt (rm hm I1) fi rsT yss := ST.same (nw_rm hhI)
      have SDr : StAt (rm hm I1) du rsD yss := (SDn.same (nw_rm hh12)).same (Same.rm sI1)
      have s3I1 := s3I.trans s1
      have f3hm : H3 hm = none := s310.free fhm
      refine lenL_rd Mh1.out ?_
      rw [List.length_map, Mh1.len]
      refine range_rd (by walk_at "om") (by walk_at "om") (by walk_at "om") (by walk_at "om") ?_
      refine loop_range (fun k σ J => ∃ (x8 : Option V) (ts : List (Addr × Addr)), σ = [some (.ref a), some (.int z), some (.ref pl), some (.ref mm), some (.ref hm), some (.ref du), x6, x7, x8, some (.ref fi)] ∧ Chg hm I1 J ∧ MixAt J hm ts (trnK ms k) ∧ Off hm ts) ?_ ?_ ?_
      · exact ⟨_, tsh, rfl, Chg.refl _ _, Mh1, Mh1.offSelf fun x hx => by rw [xlen x hx]; omega⟩
      · rintro k σ J hk ⟨_, ts, rfl, cJ, MJ, OJ⟩
        have hk : k < ms.length := by walk_at "om"
        obtain ⟨x, ex⟩ : ∃ x, ms[k]? = some x := ⟨_, List.getElem?_eq_getElem hk⟩
        have ek := trnK_at ex
        obtain ⟨t, et, at0, ht, hp⟩ := MJ.ix ek
        have at0 : atI (ts.map fun t => V.ref t.1) (0 + (k : Int)) = some (.ref t.1) := by rw [Int.zero_add]; exact at0
        refine ixL_rd (v := .ref t.1) MJ.out at0 ?_
        refine ixT_rd (v := .ref t.2) ht rfl ?_
        refine rv_rd (SqL.of hp) (fun p2 J2 f2 y2 k2 => ?_)
        rw [← List.map_reverse] at k2
        have M2 := MJ.same y2
        refine ixL_rd (v := .ref t.1) M2.out at0 ?_
        refine ixT_rd (v := .int x.2) (y2 _ _ ht) rfl ?_
        refine mulL_rd (by decide) (by decide) ?_
        refine newT_rd (fun p3 J3 f3 y3 k3 => ?_)
        have M3 := M2.same y3
        have n2 : p2 ≠ hm := Ne.symm (ne_of_none MJ.out f2)
        have n3 : p3 ≠ hm := Ne.symm (ne_of_none M2.out f3)
        refine set_rd (j := k) M3.out (by rw [List.length_map, M3.len, trnK_len ms (by walk_at "om")]; exact (ixN_in (by walk_at "om") (by walk_at "om")).trans (by congr 1; omega)) (fun J4 c4 h4 => ?_)
        walk_at "wh"
        refine ⟨_, ts.set k (p3, p2), rfl, ((cJ.same y2).same y3).trans c4, ?_, OJ.set n3 n2⟩
        rw [← trnK_succ ex]
        exact M3.setP (x := trn x) (by rw [trnK_len ms (by walk_at "om")]; exact hk) OJ c4 h4 (c4 _ _ n3 k3) (c4 _ _ n2 (y3 _ _ k2))
      · rintro σ J ⟨_, ts, rfl, cJ, MJ, OJ⟩
        have MJ : MixAt J hm ts (ms.map trn) := by
          have e : ((ms.length : Int) - 0).toNat = ms.length := by walk_at "om"
          rw [e, trnK_all] at MJ
          exact MJ
        have O2 := O.trn
        obtain ⟨m2, fd2⟩ := mixDat_ok O2 hh hf.2
        have SFJ : StAt J fi rsT yss := (SF.same (Chg.rm cJ)).same (rm_same _ _)
        have SDJ : StAt J du rsD yss := (SDr.same (Chg.rm cJ)).same (rm_same _ _)
        have sm2 : sml (mixDat (ms.map trn)) = true := by
          refine (okD.list (n := 2) (by rw [List.length_map, List.length_map]; omega) fun d hd => ?_).1
          obtain ⟨x, hx, rfl⟩ := List.mem_map.mp hd
          have xl := (O2.all x hx).2.1
          refine okD.tuple (n := 1) (by show 2 ≤ 1000; decide) fun e he => ?_
          simp only [List.mem_cons, List.not_mem_nil, or_false] at he
          rcases he with rfl | rfl
          · refine okD.list (n := 0) (by rw [List.length_map]; omega) fun e he => ?_
            obtain ⟨n, _, rfl⟩ := List.mem_map.mp he
            exact ⟨rfl, rfl, Nat.zero_le _⟩
          · exact ⟨rfl, rfl, Nat.zero_le _⟩
        refine stream_of_rd MJ.sh sm2 (fun _ => ⟨by show ((ms.map trn).map partDat).length < 64; rw [List.length_map, List.length_map]; exact ml2, fun a1 rs1 zss J1 y1 S1 SI1 => ?_⟩) (fun e => by rw [m2] at e; cases e)
        rw [msD_dat, fd2] at SI1
        refine flows_rd (MJ.same y1) (by rw [List.length_map]; exact ml1) (by rw [List.length_map]; exact ml2) (by walk_at "om") (fun x hx => (O2.all x hx).2.1) (fun a2 rs2 wss J2 y2 S2 SI2 => ?_)
        obtain rfl := SI1.unique SI2
        have os2 : okD 3 (stmD zss) := by
          rw [stm_row7]
          refine rows_ok (by rw [SI1.1]; omega) fun xs hx => ?_
          obtain ⟨i, ei⟩ := List.getElem?_of_mem hx
          have := (SI1.2 i xs ei).2
          rw [List.length_map] at this
          omega
        refine eqS_rd ((S1.same (nw_same _ _)).same y2).sh (S2.same (nw_same _ _)).sh os2.2.1 os2.2.1 (Nat.le_trans os2.2.2 (by decide)) ?_
        rw [os2.eqv]
        refine br_F ?_
        refine eqS_rd ((SFJ.same y1).same y2).sh ((SDJ.same y1).same y2).sh ost.2.1 ost.2.1 (Nat.le_trans ost.2.2 (by decide)) ?_
        rw [ost.eqv]
        refine br_F ?_
        walk_at "wh"
        exact ⟨_, _, _, _, _, _, _, _, _, rfl, ((s3I1.chg f3hm cJ).trans y1).trans y2⟩
  · rintro σ H4 ⟨_, _, _, _, _, _, _, _, _, rfl, _⟩
    exact k H4
-- @@split
end
theorem all_mk {l : PySem.W.OpenLaw} {w : World} {K : PySem.W.Frag} {h : Heap} {mg : Str → Option Value} {fa : Addr} (X : K.In h) (G : h.Ns mainGlobals mg) (hfa : mg "law" = some (.ref fa))
    {tk_MOST_HOSTS : Tok} {tk_MOST_FIELDS : Tok} {f_is_whole : Addr} {od_is_whole an_is_whole : Option Addr} {sl_is_whole : Array (Option Value)} {oc_is_whole kV_is_whole dc_is_whole pm_is_whole cd_is_whole ct_is_whole : Value} {f_is_from : Addr} {od_is_from an_is_from : Option Addr} {sl_is_from : Array (Option Value)} {oc_is_from kV_is_from dc_is_from pm_is_from cd_is_from ct_is_from : Value} {f_is_between : Addr} {od_is_between an_is_between : Option Addr} {sl_is_between : Array (Option Value)} {oc_is_between kV_is_between dc_is_between pm_is_between cd_is_between ct_is_between : Value} {f_sends_hosts : Addr} {od_sends_hosts an_sends_hosts : Option Addr} {sl_sends_hosts : Array (Option Value)} {oc_sends_hosts kV_sends_hosts dc_sends_hosts pm_sends_hosts cd_sends_hosts ct_sends_hosts : Value} {f_is_plan : Addr} {od_is_plan an_is_plan : Option Addr} {sl_is_plan : Array (Option Value)} {oc_is_plan kV_is_plan dc_is_plan pm_is_plan cd_is_plan ct_is_plan : Value} {f_is_size : Addr} {od_is_size an_is_size : Option Addr} {sl_is_size : Array (Option Value)} {oc_is_size kV_is_size dc_is_size pm_is_size cd_is_size ct_is_size : Value} {f_is_part : Addr} {od_is_part an_is_part : Option Addr} {sl_is_part : Array (Option Value)} {oc_is_part kV_is_part dc_is_part pm_is_part cd_is_part ct_is_part : Value} {f_is_mix : Addr} {od_is_mix an_is_mix : Option Addr} {sl_is_mix : Array (Option Value)} {oc_is_mix kV_is_mix dc_is_mix pm_is_mix cd_is_mix ct_is_mix : Value} {f_look_mix : Addr} {od_look_mix an_look_mix : Option Addr} {sl_look_mix : Array (Option Value)} {oc_look_mix kV_look_mix dc_look_mix pm_look_mix cd_look_mix ct_look_mix : Value} {f_is_flow : Addr} {od_is_flow an_is_flow : Option Addr} {sl_is_flow : Array (Option Value)} {oc_is_flow kV_is_flow dc_is_flow pm_is_flow cd_is_flow ct_is_flow : Value} {f_is_row : Addr} {od_is_row an_is_row : Option Addr} {sl_is_row : Array (Option Value)} {oc_is_row kV_is_row dc_is_row pm_is_row cd_is_row ct_is_row : Value} {f_begins : Addr} {od_begins an_begins : Option Addr} {sl_begins : Array (Option Value)} {oc_begins kV_begins dc_begins pm_begins cd_begins ct_begins : Value} {f_summed : Addr} {od_summed an_summed : Option Addr} {sl_summed : Array (Option Value)} {oc_summed kV_summed dc_summed pm_summed cd_summed ct_summed : Value} {f_meets : Addr} {od_meets an_meets : Option Addr} {sl_meets : Array (Option Value)} {oc_meets kV_meets dc_meets pm_meets cd_meets ct_meets : Value} {f_is_stream : Addr} {od_is_stream an_is_stream : Option Addr} {sl_is_stream : Array (Option Value)} {oc_is_stream kV_is_stream dc_is_stream pm_is_stream cd_is_stream ct_is_stream : Value} {f_row_of : Addr} {od_row_of an_row_of : Option Addr} {sl_row_of : Array (Option Value)} {oc_row_of kV_row_of dc_row_of pm_row_of cd_row_of ct_row_of : Value} {f_stream_of : Addr} {od_stream_of an_stream_of : Option Addr} {sl_stream_of : Array (Option Value)} {oc_stream_of kV_stream_of dc_stream_of pm_stream_of cd_stream_of ct_stream_of : Value} {f__law_mix : Addr} {od__law_mix an__law_mix : Option Addr} {sl__law_mix : Array (Option Value)} {oc__law_mix kV__law_mix dc__law_mix pm__law_mix cd__law_mix ct__law_mix : Value} {f__law_cell_at : Addr} {od__law_cell_at an__law_cell_at : Option Addr} {sl__law_cell_at : Array (Option Value)} {oc__law_cell_at kV__law_cell_at dc__law_cell_at pm__law_cell_at cd__law_cell_at ct__law_cell_at : Value} {f__law_left : Addr} {od__law_left an__law_left : Option Addr} {sl__law_left : Array (Option Value)} {oc__law_left kV__law_left dc__law_left pm__law_left cd__law_left ct__law_left : Value} {f__law_draw : Addr} {od__law_draw an__law_draw : Option Addr} {sl__law_draw : Array (Option Value)} {oc__law_draw kV__law_draw dc__law_draw pm__law_draw cd__law_draw ct__law_draw : Value} {f__law_plan : Addr} {od__law_plan an__law_plan : Option Addr} {sl__law_plan : Array (Option Value)} {oc__law_plan kV__law_plan dc__law_plan pm__law_plan cd__law_plan ct__law_plan : Value} {f__law_lot : Addr} {od__law_lot an__law_lot : Option Addr} {sl__law_lot : Array (Option Value)} {oc__law_lot kV__law_lot dc__law_lot pm__law_lot cd__law_lot ct__law_lot : Value} {f__law_flows : Addr} {od__law_flows an__law_flows : Option Addr} {sl__law_flows : Array (Option Value)} {oc__law_flows kV__law_flows dc__law_flows pm__law_flows cd__law_flows ct__law_flows : Value} {f__law_deep : Addr} {od__law_deep an__law_deep : Option Addr} {sl__law_deep : Array (Option Value)} {oc__law_deep kV__law_deep dc__law_deep pm__law_deep cd__law_deep ct__law_deep : Value} {f__law_bent : Addr} {od__law_bent an__law_bent : Option Addr} {sl__law_bent : Array (Option Value)} {oc__law_bent kV__law_bent dc__law_bent pm__law_bent cd__law_bent ct__law_bent : Value} {f__law_is_mix : Addr} {od__law_is_mix an__law_is_mix : Option Addr} {sl__law_is_mix : Array (Option Value)} {oc__law_is_mix kV__law_is_mix dc__law_is_mix pm__law_is_mix cd__law_is_mix ct__law_is_mix : Value} {f__law_refused : Addr} {od__law_refused an__law_refused : Option Addr} {sl__law_refused : Array (Option Value)} {oc__law_refused kV__law_refused dc__law_refused pm__law_refused cd__law_refused ct__law_refused : Value} {f_law : Addr} {od_law an_law : Option Addr} {sl_law : Array (Option Value)} {oc_law kV_law dc_law pm_law cd_law ct_law : Value} {a_HostError : Addr} {cd_HostError : ClassData} {a_NoBattle : Addr} {cd_NoBattle : ClassData} {a_NoPlan : Addr} {cd_NoPlan : ClassData} {a_NoMix : Addr} {cd_NoMix : ClassData} {a_NoStream : Addr} {cd_NoStream : ClassData} {a_NoSide : Addr} {cd_NoSide : ClassData} {a_NoAlike : Addr} {cd_NoAlike : ClassData} {a_NoNumber : Addr} {cd_NoNumber : ClassData}
    (e_MOST_HOSTS : PySem.W.nsIn K mainGlobals "MOST_HOSTS" = some (some (.int 40 tk_MOST_HOSTS)))
    (e_MOST_FIELDS : PySem.W.nsIn K mainGlobals "MOST_FIELDS" = some (some (.int 8 tk_MOST_FIELDS)))
    (a_is_whole : PySem.W.nsIn K mainGlobals "is_whole" = some (some (.ref f_is_whole)))
    (l_is_whole : K.lookup f_is_whole = some ⟨oc_is_whole, od_is_whole, .func (PySem.W.fnOf "is_whole" "is_whole" (defArgs s_is_whole) (defBody s_is_whole) (defScope s_is_whole) .none kV_is_whole dc_is_whole pm_is_whole an_is_whole cd_is_whole ct_is_whole), sl_is_whole⟩)
    (c_is_whole : PySem.W.codeIn K cd_is_whole "is_whole" = true)
    (k_is_whole : PySem.W.keepIn K (.ref f_is_whole) = true)
    (a_is_from : PySem.W.nsIn K mainGlobals "is_from" = some (some (.ref f_is_from)))
    (l_is_from : K.lookup f_is_from = some ⟨oc_is_from, od_is_from, .func (PySem.W.fnOf "is_from" "is_from" (defArgs s_is_from) (defBody s_is_from) (defScope s_is_from) .none kV_is_from dc_is_from pm_is_from an_is_from cd_is_from ct_is_from), sl_is_from⟩)
    (c_is_from : PySem.W.codeIn K cd_is_from "is_from" = true)
    (k_is_from : PySem.W.keepIn K (.ref f_is_from) = true)
    (a_is_between : PySem.W.nsIn K mainGlobals "is_between" = some (some (.ref f_is_between)))
    (l_is_between : K.lookup f_is_between = some ⟨oc_is_between, od_is_between, .func (PySem.W.fnOf "is_between" "is_between" (defArgs s_is_between) (defBody s_is_between) (defScope s_is_between) .none kV_is_between dc_is_between pm_is_between an_is_between cd_is_between ct_is_between), sl_is_between⟩)
    (c_is_between : PySem.W.codeIn K cd_is_between "is_between" = true)
    (k_is_between : PySem.W.keepIn K (.ref f_is_between) = true)
    (a_sends_hosts : PySem.W.nsIn K mainGlobals "sends_hosts" = some (some (.ref f_sends_hosts)))
    (l_sends_hosts : K.lookup f_sends_hosts = some ⟨oc_sends_hosts, od_sends_hosts, .func (PySem.W.fnOf "sends_hosts" "sends_hosts" (defArgs s_sends_hosts) (defBody s_sends_hosts) (defScope s_sends_hosts) .none kV_sends_hosts dc_sends_hosts pm_sends_hosts an_sends_hosts cd_sends_hosts ct_sends_hosts), sl_sends_hosts⟩)
    (c_sends_hosts : PySem.W.codeIn K cd_sends_hosts "sends_hosts" = true)
    (k_sends_hosts : PySem.W.keepIn K (.ref f_sends_hosts) = true)
    (a_is_plan : PySem.W.nsIn K mainGlobals "is_plan" = some (some (.ref f_is_plan)))
    (l_is_plan : K.lookup f_is_plan = some ⟨oc_is_plan, od_is_plan, .func (PySem.W.fnOf "is_plan" "is_plan" (defArgs s_is_plan) (defBody s_is_plan) (defScope s_is_plan) .none kV_is_plan dc_is_plan pm_is_plan an_is_plan cd_is_plan ct_is_plan), sl_is_plan⟩)
    (c_is_plan : PySem.W.codeIn K cd_is_plan "is_plan" = true)
    (k_is_plan : PySem.W.keepIn K (.ref f_is_plan) = true)
    (a_is_size : PySem.W.nsIn K mainGlobals "is_size" = some (some (.ref f_is_size)))
    (l_is_size : K.lookup f_is_size = some ⟨oc_is_size, od_is_size, .func (PySem.W.fnOf "is_size" "is_size" (defArgs s_is_size) (defBody s_is_size) (defScope s_is_size) .none kV_is_size dc_is_size pm_is_size an_is_size cd_is_size ct_is_size), sl_is_size⟩)
    (c_is_size : PySem.W.codeIn K cd_is_size "is_size" = true)
    (k_is_size : PySem.W.keepIn K (.ref f_is_size) = true)
    (a_is_part : PySem.W.nsIn K mainGlobals "is_part" = some (some (.ref f_is_part)))
    (l_is_part : K.lookup f_is_part = some ⟨oc_is_part, od_is_part, .func (PySem.W.fnOf "is_part" "is_part" (defArgs s_is_part) (defBody s_is_part) (defScope s_is_part) .none kV_is_part dc_is_part pm_is_part an_is_part cd_is_part ct_is_part), sl_is_part⟩)
    (c_is_part : PySem.W.codeIn K cd_is_part "is_part" = true)
    (k_is_part : PySem.W.keepIn K (.ref f_is_part) = true)
    (a_is_mix : PySem.W.nsIn K mainGlobals "is_mix" = some (some (.ref f_is_mix)))
    (l_is_mix : K.lookup f_is_mix = some ⟨oc_is_mix, od_is_mix, .func (PySem.W.fnOf "is_mix" "is_mix" (defArgs s_is_mix) (defBody s_is_mix) (defScope s_is_mix) .none kV_is_mix dc_is_mix pm_is_mix an_is_mix cd_is_mix ct_is_mix), sl_is_mix⟩)
    (c_is_mix : PySem.W.codeIn K cd_is_mix "is_mix" = true)
    (k_is_mix : PySem.W.keepIn K (.ref f_is_mix) = true)
    (a_look_mix : PySem.W.nsIn K mainGlobals "look_mix" = some (some (.ref f_look_mix)))
    (l_look_mix : K.lookup f_look_mix = some ⟨oc_look_mix, od_look_mix, .func (PySem.W.fnOf "look_mix" "look_mix" (defArgs s_look_mix) (defBody s_look_mix) (defScope s_look_mix) .none kV_look_mix dc_look_mix pm_look_mix an_look_mix cd_look_mix ct_look_mix), sl_look_mix⟩)
    (c_look_mix : PySem.W.codeIn K cd_look_mix "look_mix" = true)
    (k_look_mix : PySem.W.keepIn K (.ref f_look_mix) = true)
    (a_is_flow : PySem.W.nsIn K mainGlobals "is_flow" = some (some (.ref f_is_flow)))
    (l_is_flow : K.lookup f_is_flow = some ⟨oc_is_flow, od_is_flow, .func (PySem.W.fnOf "is_flow" "is_flow" (defArgs s_is_flow) (defBody s_is_flow) (defScope s_is_flow) .none kV_is_flow dc_is_flow pm_is_flow an_is_flow cd_is_flow ct_is_flow), sl_is_flow⟩)
    (c_is_flow : PySem.W.codeIn K cd_is_flow "is_flow" = true)
    (k_is_flow : PySem.W.keepIn K (.ref f_is_flow) = true)
    (a_is_row : PySem.W.nsIn K mainGlobals "is_row" = some (some (.ref f_is_row)))
    (l_is_row : K.lookup f_is_row = some ⟨oc_is_row, od_is_row, .func (PySem.W.fnOf "is_row" "is_row" (defArgs s_is_row) (defBody s_is_row) (defScope s_is_row) .none kV_is_row dc_is_row pm_is_row an_is_row cd_is_row ct_is_row), sl_is_row⟩)
    (c_is_row : PySem.W.codeIn K cd_is_row "is_row" = true)
    (k_is_row : PySem.W.keepIn K (.ref f_is_row) = true)
    (a_begins : PySem.W.nsIn K mainGlobals "begins" = some (some (.ref f_begins)))
    (l_begins : K.lookup f_begins = some ⟨oc_begins, od_begins, .func (PySem.W.fnOf "begins" "begins" (defArgs s_begins) (defBody s_begins) (defScope s_begins) .none kV_begins dc_begins pm_begins an_begins cd_begins ct_begins), sl_begins⟩)
    (c_begins : PySem.W.codeIn K cd_begins "begins" = true)
    (k_begins : PySem.W.keepIn K (.ref f_begins) = true)
    (a_summed : PySem.W.nsIn K mainGlobals "summed" = some (some (.ref f_summed)))
    (l_summed : K.lookup f_summed = some ⟨oc_summed, od_summed, .func (PySem.W.fnOf "summed" "summed" (defArgs s_summed) (defBody s_summed) (defScope s_summed) .none kV_summed dc_summed pm_summed an_summed cd_summed ct_summed), sl_summed⟩)
    (c_summed : PySem.W.codeIn K cd_summed "summed" = true)
    (k_summed : PySem.W.keepIn K (.ref f_summed) = true)
    (a_meets : PySem.W.nsIn K mainGlobals "meets" = some (some (.ref f_meets)))
    (l_meets : K.lookup f_meets = some ⟨oc_meets, od_meets, .func (PySem.W.fnOf "meets" "meets" (defArgs s_meets) (defBody s_meets) (defScope s_meets) .none kV_meets dc_meets pm_meets an_meets cd_meets ct_meets), sl_meets⟩)
    (c_meets : PySem.W.codeIn K cd_meets "meets" = true)
    (k_meets : PySem.W.keepIn K (.ref f_meets) = true)
    (a_is_stream : PySem.W.nsIn K mainGlobals "is_stream" = some (some (.ref f_is_stream)))
    (l_is_stream : K.lookup f_is_stream = some ⟨oc_is_stream, od_is_stream, .func (PySem.W.fnOf "is_stream" "is_stream" (defArgs s_is_stream) (defBody s_is_stream) (defScope s_is_stream) .none kV_is_stream dc_is_stream pm_is_stream an_is_stream cd_is_stream ct_is_stream), sl_is_stream⟩)
    (c_is_stream : PySem.W.codeIn K cd_is_stream "is_stream" = true)
    (k_is_stream : PySem.W.keepIn K (.ref f_is_stream) = true)
    (a_row_of : PySem.W.nsIn K mainGlobals "row_of" = some (some (.ref f_row_of)))
    (l_row_of : K.lookup f_row_of = some ⟨oc_row_of, od_row_of, .func (PySem.W.fnOf "row_of" "row_of" (defArgs s_row_of) (defBody s_row_of) (defScope s_row_of) .none kV_row_of dc_row_of pm_row_of an_row_of cd_row_of ct_row_of), sl_row_of⟩)
    (c_row_of : PySem.W.codeIn K cd_row_of "row_of" = true)
    (k_row_of : PySem.W.keepIn K (.ref f_row_of) = true)
    (a_stream_of : PySem.W.nsIn K mainGlobals "stream_of" = some (some (.ref f_stream_of)))
    (l_stream_of : K.lookup f_stream_of = some ⟨oc_stream_of, od_stream_of, .func (PySem.W.fnOf "stream_of" "stream_of" (defArgs s_stream_of) (defBody s_stream_of) (defScope s_stream_of) .none kV_stream_of dc_stream_of pm_stream_of an_stream_of cd_stream_of ct_stream_of), sl_stream_of⟩)
    (c_stream_of : PySem.W.codeIn K cd_stream_of "stream_of" = true)
    (k_stream_of : PySem.W.keepIn K (.ref f_stream_of) = true)
    (a__law_mix : PySem.W.nsIn K mainGlobals "_law_mix" = some (some (.ref f__law_mix)))
    (l__law_mix : K.lookup f__law_mix = some ⟨oc__law_mix, od__law_mix, .func (PySem.W.fnOf "_law_mix" "_law_mix" (defArgs s__law_mix) (defBody s__law_mix) (defScope s__law_mix) .none kV__law_mix dc__law_mix pm__law_mix an__law_mix cd__law_mix ct__law_mix), sl__law_mix⟩)
    (c__law_mix : PySem.W.codeIn K cd__law_mix "_law_mix" = true)
    (k__law_mix : PySem.W.keepIn K (.ref f__law_mix) = true)
    (a__law_cell_at : PySem.W.nsIn K mainGlobals "_law_cell_at" = some (some (.ref f__law_cell_at)))
    (l__law_cell_at : K.lookup f__law_cell_at = some ⟨oc__law_cell_at, od__law_cell_at, .func (PySem.W.fnOf "_law_cell_at" "_law_cell_at" (defArgs s__law_cell_at) (defBody s__law_cell_at) (defScope s__law_cell_at) .none kV__law_cell_at dc__law_cell_at pm__law_cell_at an__law_cell_at cd__law_cell_at ct__law_cell_at), sl__law_cell_at⟩)
    (c__law_cell_at : PySem.W.codeIn K cd__law_cell_at "_law_cell_at" = true)
    (k__law_cell_at : PySem.W.keepIn K (.ref f__law_cell_at) = true)
    (a__law_left : PySem.W.nsIn K mainGlobals "_law_left" = some (some (.ref f__law_left)))
    (l__law_left : K.lookup f__law_left = some ⟨oc__law_left, od__law_left, .func (PySem.W.fnOf "_law_left" "_law_left" (defArgs s__law_left) (defBody s__law_left) (defScope s__law_left) .none kV__law_left dc__law_left pm__law_left an__law_left cd__law_left ct__law_left), sl__law_left⟩)
    (c__law_left : PySem.W.codeIn K cd__law_left "_law_left" = true)
    (k__law_left : PySem.W.keepIn K (.ref f__law_left) = true)
    (a__law_draw : PySem.W.nsIn K mainGlobals "_law_draw" = some (some (.ref f__law_draw)))
    (l__law_draw : K.lookup f__law_draw = some ⟨oc__law_draw, od__law_draw, .func (PySem.W.fnOf "_law_draw" "_law_draw" (defArgs s__law_draw) (defBody s__law_draw) (defScope s__law_draw) .none kV__law_draw dc__law_draw pm__law_draw an__law_draw cd__law_draw ct__law_draw), sl__law_draw⟩)
    (c__law_draw : PySem.W.codeIn K cd__law_draw "_law_draw" = true)
    (k__law_draw : PySem.W.keepIn K (.ref f__law_draw) = true)
    (a__law_plan : PySem.W.nsIn K mainGlobals "_law_plan" = some (some (.ref f__law_plan)))
    (l__law_plan : K.lookup f__law_plan = some ⟨oc__law_plan, od__law_plan, .func (PySem.W.fnOf "_law_plan" "_law_plan" (defArgs s__law_plan) (defBody s__law_plan) (defScope s__law_plan) .none kV__law_plan dc__law_plan pm__law_plan an__law_plan cd__law_plan ct__law_plan), sl__law_plan⟩)
    (c__law_plan : PySem.W.codeIn K cd__law_plan "_law_plan" = true)
    (k__law_plan : PySem.W.keepIn K (.ref f__law_plan) = true)
    (a__law_lot : PySem.W.nsIn K mainGlobals "_law_lot" = some (some (.ref f__law_lot)))
    (l__law_lot : K.lookup f__law_lot = some ⟨oc__law_lot, od__law_lot, .func (PySem.W.fnOf "_law_lot" "_law_lot" (defArgs s__law_lot) (defBody s__law_lot) (defScope s__law_lot) .none kV__law_lot dc__law_lot pm__law_lot an__law_lot cd__law_lot ct__law_lot), sl__law_lot⟩)
    (c__law_lot : PySem.W.codeIn K cd__law_lot "_law_lot" = true)
    (k__law_lot : PySem.W.keepIn K (.ref f__law_lot) = true)
    (a__law_flows : PySem.W.nsIn K mainGlobals "_law_flows" = some (some (.ref f__law_flows)))
    (l__law_flows : K.lookup f__law_flows = some ⟨oc__law_flows, od__law_flows, .func (PySem.W.fnOf "_law_flows" "_law_flows" (defArgs s__law_flows) (defBody s__law_flows) (defScope s__law_flows) .none kV__law_flows dc__law_flows pm__law_flows an__law_flows cd__law_flows ct__law_flows), sl__law_flows⟩)
    (c__law_flows : PySem.W.codeIn K cd__law_flows "_law_flows" = true)
    (k__law_flows : PySem.W.keepIn K (.ref f__law_flows) = true)
    (a__law_deep : PySem.W.nsIn K mainGlobals "_law_deep" = some (some (.ref f__law_deep)))
    (l__law_deep : K.lookup f__law_deep = some ⟨oc__law_deep, od__law_deep, .func (PySem.W.fnOf "_law_deep" "_law_deep" (defArgs s__law_deep) (defBody s__law_deep) (defScope s__law_deep) .none kV__law_deep dc__law_deep pm__law_deep an__law_deep cd__law_deep ct__law_deep), sl__law_deep⟩)
    (c__law_deep : PySem.W.codeIn K cd__law_deep "_law_deep" = true)
    (k__law_deep : PySem.W.keepIn K (.ref f__law_deep) = true)
    (a__law_bent : PySem.W.nsIn K mainGlobals "_law_bent" = some (some (.ref f__law_bent)))
    (l__law_bent : K.lookup f__law_bent = some ⟨oc__law_bent, od__law_bent, .func (PySem.W.fnOf "_law_bent" "_law_bent" (defArgs s__law_bent) (defBody s__law_bent) (defScope s__law_bent) .none kV__law_bent dc__law_bent pm__law_bent an__law_bent cd__law_bent ct__law_bent), sl__law_bent⟩)
    (c__law_bent : PySem.W.codeIn K cd__law_bent "_law_bent" = true)
    (k__law_bent : PySem.W.keepIn K (.ref f__law_bent) = true)
    (a__law_is_mix : PySem.W.nsIn K mainGlobals "_law_is_mix" = some (some (.ref f__law_is_mix)))
    (l__law_is_mix : K.lookup f__law_is_mix = some ⟨oc__law_is_mix, od__law_is_mix, .func (PySem.W.fnOf "_law_is_mix" "_law_is_mix" (defArgs s__law_is_mix) (defBody s__law_is_mix) (defScope s__law_is_mix) .none kV__law_is_mix dc__law_is_mix pm__law_is_mix an__law_is_mix cd__law_is_mix ct__law_is_mix), sl__law_is_mix⟩)
    (c__law_is_mix : PySem.W.codeIn K cd__law_is_mix "_law_is_mix" = true)
    (k__law_is_mix : PySem.W.keepIn K (.ref f__law_is_mix) = true)
    (a__law_refused : PySem.W.nsIn K mainGlobals "_law_refused" = some (some (.ref f__law_refused)))
    (l__law_refused : K.lookup f__law_refused = some ⟨oc__law_refused, od__law_refused, .func (PySem.W.fnOf "_law_refused" "_law_refused" (defArgs s__law_refused) (defBody s__law_refused) (defScope s__law_refused) .none kV__law_refused dc__law_refused pm__law_refused an__law_refused cd__law_refused ct__law_refused), sl__law_refused⟩)
    (c__law_refused : PySem.W.codeIn K cd__law_refused "_law_refused" = true)
    (k__law_refused : PySem.W.keepIn K (.ref f__law_refused) = true)
    (a_law : PySem.W.nsIn K mainGlobals "law" = some (some (.ref f_law)))
    (l_law : K.lookup f_law = some ⟨oc_law, od_law, .func (PySem.W.fnOf "law" "law" (defArgs s_law) (defBody s_law) (defScope s_law) .none kV_law dc_law pm_law an_law cd_law ct_law), sl_law⟩)
    (c_law : PySem.W.codeIn K cd_law "law" = true)
    (k_law : PySem.W.keepIn K (.ref f_law) = true)
    (z_ValueError : PySem.W.nsIn K mainGlobals "ValueError" = some none)
    (z_all : PySem.W.nsIn K mainGlobals "all" = some none)
    (z_bool : PySem.W.nsIn K mainGlobals "bool" = some none)
    (z_int : PySem.W.nsIn K mainGlobals "int" = some none)
    (z_isinstance : PySem.W.nsIn K mainGlobals "isinstance" = some none)
    (z_len : PySem.W.nsIn K mainGlobals "len" = some none)
    (z_list : PySem.W.nsIn K mainGlobals "list" = some none)
    (z_range : PySem.W.nsIn K mainGlobals "range" = some none)
    (z_sorted : PySem.W.nsIn K mainGlobals "sorted" = some none)
    (z_sum : PySem.W.nsIn K mainGlobals "sum" = some none)
    (z_tuple : PySem.W.nsIn K mainGlobals "tuple" = some none)
    (z_zip : PySem.W.nsIn K mainGlobals "zip" = some none)
    (e_HostError : PySem.W.nsIn K mainGlobals "HostError" = some (some (.ref a_HostError)))
    (kk_HostError : PySem.W.clsIn K a_HostError = some cd_HostError)
    (tt_HostError : PySem.W.typeIn K (.ref a_HostError) = some (.type "type"))
    (nn_HostError : PySem.W.subIn K (.type "NoneType") (.ref a_HostError) = some false)
    (e_NoBattle : PySem.W.nsIn K mainGlobals "NoBattle" = some (some (.ref a_NoBattle)))
    (kk_NoBattle : PySem.W.clsIn K a_NoBattle = some cd_NoBattle)
    (tt_NoBattle : PySem.W.typeIn K (.ref a_NoBattle) = some (.type "type"))
    (nn_NoBattle : PySem.W.subIn K (.type "NoneType") (.ref a_NoBattle) = some false)
    (e_NoPlan : PySem.W.nsIn K mainGlobals "NoPlan" = some (some (.ref a_NoPlan)))
    (kk_NoPlan : PySem.W.clsIn K a_NoPlan = some cd_NoPlan)
    (tt_NoPlan : PySem.W.typeIn K (.ref a_NoPlan) = some (.type "type"))
    (nn_NoPlan : PySem.W.subIn K (.type "NoneType") (.ref a_NoPlan) = some false)
    (e_NoMix : PySem.W.nsIn K mainGlobals "NoMix" = some (some (.ref a_NoMix)))
    (kk_NoMix : PySem.W.clsIn K a_NoMix = some cd_NoMix)
    (tt_NoMix : PySem.W.typeIn K (.ref a_NoMix) = some (.type "type"))
    (nn_NoMix : PySem.W.subIn K (.type "NoneType") (.ref a_NoMix) = some false)
    (e_NoStream : PySem.W.nsIn K mainGlobals "NoStream" = some (some (.ref a_NoStream)))
    (kk_NoStream : PySem.W.clsIn K a_NoStream = some cd_NoStream)
    (tt_NoStream : PySem.W.typeIn K (.ref a_NoStream) = some (.type "type"))
    (nn_NoStream : PySem.W.subIn K (.type "NoneType") (.ref a_NoStream) = some false)
    (e_NoSide : PySem.W.nsIn K mainGlobals "NoSide" = some (some (.ref a_NoSide)))
    (kk_NoSide : PySem.W.clsIn K a_NoSide = some cd_NoSide)
    (tt_NoSide : PySem.W.typeIn K (.ref a_NoSide) = some (.type "type"))
    (nn_NoSide : PySem.W.subIn K (.type "NoneType") (.ref a_NoSide) = some false)
    (e_NoAlike : PySem.W.nsIn K mainGlobals "NoAlike" = some (some (.ref a_NoAlike)))
    (kk_NoAlike : PySem.W.clsIn K a_NoAlike = some cd_NoAlike)
    (tt_NoAlike : PySem.W.typeIn K (.ref a_NoAlike) = some (.type "type"))
    (nn_NoAlike : PySem.W.subIn K (.type "NoneType") (.ref a_NoAlike) = some false)
    (e_NoNumber : PySem.W.nsIn K mainGlobals "NoNumber" = some (some (.ref a_NoNumber)))
    (kk_NoNumber : PySem.W.clsIn K a_NoNumber = some cd_NoNumber)
    (tt_NoNumber : PySem.W.typeIn K (.ref a_NoNumber) = some (.type "type"))
    (nn_NoNumber : PySem.W.subIn K (.type "NoneType") (.ref a_NoNumber) = some false)
    (bb_HostError : PySem.W.subIn K (.ref a_HostError) (.type "BaseException") = some true)
    (x_NoMix : PySem.W.excIn K a_NoMix bmV newV = true)
    (f1_NoMix : PySem.W.findIn K (.ref a_NoMix) "__getattribute__" = some (some (.builtin "BaseException.__getattribute__")))
    (f2_NoMix : PySem.W.findIn K (.ref a_NoMix) "__getattr__" = some none)
    (f3_NoMix : PySem.W.findIn K (.ref a_NoMix) "__class__" = some (some (.builtin "object.__class__")))
    (f4_NoMix : PySem.W.subIn K (.ref a_NoMix) (.type "BaseException") = some true)
    (f5_NoMix : PySem.W.mroIn K a_NoMix (.type "object") = some true)
    (f6_NoMix : PySem.W.subIn K (.ref a_NoMix) (.type "ValueError") = some true)
    (s_NoMix_HostError : PySem.W.subIn K (.ref a_NoMix) (.ref a_HostError) = some true)
    (s_NoMix_NoBattle : PySem.W.subIn K (.ref a_NoMix) (.ref a_NoBattle) = some false)
    (s_NoMix_NoPlan : PySem.W.subIn K (.ref a_NoMix) (.ref a_NoPlan) = some false)
    (s_NoMix_NoMix : PySem.W.subIn K (.ref a_NoMix) (.ref a_NoMix) = some true)
    (s_NoMix_NoStream : PySem.W.subIn K (.ref a_NoMix) (.ref a_NoStream) = some false)
    (s_NoMix_NoSide : PySem.W.subIn K (.ref a_NoMix) (.ref a_NoSide) = some false)
    (s_NoMix_NoAlike : PySem.W.subIn K (.ref a_NoMix) (.ref a_NoAlike) = some false)
    (s_NoMix_NoNumber : PySem.W.subIn K (.ref a_NoMix) (.ref a_NoNumber) = some false) :
    ∃ fd : FuncData, (∀ (s : Shared) (v : Value), BindsTo s fd ⟨[v], []⟩ [("_law_script", v)]) ∧ ∀ base : Heap, K.In base → base.Ns mainGlobals mg → FnOk l.prog w K mg base CX0 11 fa fd ["_law_script"] (spLaw K) := by
  have e := hfa.symm.trans (PySem.W.mg_of X G a_law)
  cases e
  have N : Nm mg := ⟨PySem.W.mg_none_of X G z_ValueError, PySem.W.mg_none_of X G z_all, PySem.W.mg_none_of X G z_bool, PySem.W.mg_none_of X G z_int, PySem.W.mg_none_of X G z_isinstance, PySem.W.mg_none_of X G z_len, PySem.W.mg_none_of X G z_list, PySem.W.mg_none_of X G z_range, PySem.W.mg_none_of X G z_sorted, PySem.W.mg_none_of X G z_sum, PySem.W.mg_none_of X G z_tuple, PySem.W.mg_none_of X G z_zip⟩
  have C_MOST_HOSTS := PySem.W.mg_of X G e_MOST_HOSTS
  have C_MOST_FIELDS := PySem.W.mg_of X G e_MOST_FIELDS
  have F_is_whole := fun_mk (st := s_is_whole) l_is_whole c_is_whole k_is_whole
  have F_is_from := fun_mk (st := s_is_from) l_is_from c_is_from k_is_from
  have F_is_between := fun_mk (st := s_is_between) l_is_between c_is_between k_is_between
  have F_sends_hosts := fun_mk (st := s_sends_hosts) l_sends_hosts c_sends_hosts k_sends_hosts
  have F_is_plan := fun_mk (st := s_is_plan) l_is_plan c_is_plan k_is_plan
  have F_is_size := fun_mk (st := s_is_size) l_is_size c_is_size k_is_size
  have F_is_part := fun_mk (st := s_is_part) l_is_part c_is_part k_is_part
  have F_is_mix := fun_mk (st := s_is_mix) l_is_mix c_is_mix k_is_mix
  have F_look_mix := fun_mk (st := s_look_mix) l_look_mix c_look_mix k_look_mix
  have F_is_flow := fun_mk (st := s_is_flow) l_is_flow c_is_flow k_is_flow
  have F_is_row := fun_mk (st := s_is_row) l_is_row c_is_row k_is_row
  have F_begins := fun_mk (st := s_begins) l_begins c_begins k_begins
  have F_summed := fun_mk (st := s_summed) l_summed c_summed k_summed
  have F_meets := fun_mk (st := s_meets) l_meets c_meets k_meets
  have F_is_stream := fun_mk (st := s_is_stream) l_is_stream c_is_stream k_is_stream
  have F_row_of := fun_mk (st := s_row_of) l_row_of c_row_of k_row_of
  have F_stream_of := fun_mk (st := s_stream_of) l_stream_of c_stream_of k_stream_of
  have F__law_mix := fun_mk (st := s__law_mix) l__law_mix c__law_mix k__law_mix
  have F__law_cell_at := fun_mk (st := s__law_cell_at) l__law_cell_at c__law_cell_at k__law_cell_at
  have F__law_left := fun_mk (st := s__law_left) l__law_left c__law_left k__law_left
  have F__law_draw := fun_mk (st := s__law_draw) l__law_draw c__law_draw k__law_draw
  have F__law_plan := fun_mk (st := s__law_plan) l__law_plan c__law_plan k__law_plan
  have F__law_lot := fun_mk (st := s__law_lot) l__law_lot c__law_lot k__law_lot
  have F__law_flows := fun_mk (st := s__law_flows) l__law_flows c__law_flows k__law_flows
  have F__law_deep := fun_mk (st := s__law_deep) l__law_deep c__law_deep k__law_deep
  have F__law_bent := fun_mk (st := s__law_bent) l__law_bent c__law_bent k__law_bent
  have F__law_is_mix := fun_mk (st := s__law_is_mix) l__law_is_mix c__law_is_mix k__law_is_mix
  have F__law_refused := fun_mk (st := s__law_refused) l__law_refused c__law_refused k__law_refused
  have F_law := fun_mk (st := s_law) l_law c_law k_law
  refine ⟨PySem.W.fnOf "law" "law" (defArgs s_law) (defBody s_law) (defScope s_law) .none kV_law dc_law pm_law an_law cd_law ct_law, fun s v => .of_eq rfl, fun base XB GB => ?_⟩
  have Z : Cz K mg base a_HostError a_NoBattle a_NoPlan a_NoMix a_NoStream a_NoSide a_NoAlike a_NoNumber := ⟨PySem.W.mg_of X G e_HostError, PySem.W.mg_of X G e_NoBattle, PySem.W.mg_of X G e_NoPlan, PySem.W.mg_of X G e_NoMix, PySem.W.mg_of X G e_NoStream, PySem.W.mg_of X G e_NoSide, PySem.W.mg_of X G e_NoAlike, PySem.W.mg_of X G e_NoNumber, own_of_K XB GB e_NoMix x_NoMix, ⟨f1_NoMix, f2_NoMix, f3_NoMix, f4_NoMix, f5_NoMix⟩, by rw [kk_NoMix]; rfl, exm_ref bb_HostError kk_HostError tt_HostError s_NoMix_HostError, kit_ValueError f6_NoMix, kit_ref kk_HostError tt_HostError s_NoMix_HostError s_NoMix_NoMix, kit_ref kk_NoBattle tt_NoBattle s_NoMix_NoBattle s_NoMix_NoMix, kit_ref kk_NoPlan tt_NoPlan s_NoMix_NoPlan s_NoMix_NoMix, kit_ref kk_NoMix tt_NoMix s_NoMix_NoMix s_NoMix_NoMix, kit_ref kk_NoStream tt_NoStream s_NoMix_NoStream s_NoMix_NoMix, kit_ref kk_NoSide tt_NoSide s_NoMix_NoSide s_NoMix_NoMix, kit_ref kk_NoAlike tt_NoAlike s_NoMix_NoAlike s_NoMix_NoMix, kit_ref kk_NoNumber tt_NoNumber s_NoMix_NoNumber s_NoMix_NoMix, kit_none kk_HostError tt_HostError nn_HostError, kit_none kk_NoBattle tt_NoBattle nn_NoBattle, kit_none kk_NoPlan tt_NoPlan nn_NoPlan, kit_none kk_NoMix tt_NoMix nn_NoMix, kit_none kk_NoStream tt_NoStream nn_NoStream, kit_none kk_NoSide tt_NoSide nn_NoSide, kit_none kk_NoAlike tt_NoAlike nn_NoAlike, kit_none kk_NoNumber tt_NoNumber nn_NoNumber⟩
  have D_is_whole : Def l.prog w K mg base CX0 1 "is_whole" ["thing"] sp_is_whole := ⟨⟨_, _, ok_is_whole (P := l.prog) (w := w) (base := base) F_is_whole N , PySem.W.mg_of X G a_is_whole, k_is_whole, F_is_whole.binds fun _ _ _ _ _ _ us hl => match us, hl with | [_], _ => rfl⟩⟩
  have D_is_from : Def l.prog w K mg base CX0 2 "is_from" ["thing", "least"] sp_is_from := ⟨⟨_, _, ok_is_from (P := l.prog) (w := w) (base := base) F_is_from N D_is_whole, PySem.W.mg_of X G a_is_from, k_is_from, F_is_from.binds fun _ _ _ _ _ _ us hl => match us, hl with | [_, _], _ => rfl⟩⟩
  have D_is_between : Def l.prog w K mg base CX0 3 "is_between" ["thing", "least", "most"] sp_is_between := ⟨⟨_, _, ok_is_between (P := l.prog) (w := w) (base := base) F_is_between N D_is_from, PySem.W.mg_of X G a_is_between, k_is_between, F_is_between.binds fun _ _ _ _ _ _ us hl => match us, hl with | [_, _, _], _ => rfl⟩⟩
  have D_sends_hosts : Def l.prog w K mg base CX0 3 "sends_hosts" ["plan"] sp_sends_hosts := ⟨⟨_, _, ok_sends_hosts (P := l.prog) (w := w) (base := base) F_sends_hosts N D_is_from, PySem.W.mg_of X G a_sends_hosts, k_sends_hosts, F_sends_hosts.binds fun _ _ _ _ _ _ us hl => match us, hl with | [_], _ => rfl⟩⟩
  have D_is_plan : Def l.prog w K mg base CX0 4 "is_plan" ["hosts", "fields", "plan"] sp_is_plan := ⟨⟨_, _, ok_is_plan (P := l.prog) (w := w) (base := base) F_is_plan N D_sends_hosts, PySem.W.mg_of X G a_is_plan, k_is_plan, F_is_plan.binds fun _ _ _ _ _ _ us hl => match us, hl with | [_, _, _], _ => rfl⟩⟩
  have D_is_size : Def l.prog w K mg base CX0 4 "is_size" ["hosts", "fields"] sp_is_size := ⟨⟨_, _, ok_is_size (P := l.prog) (w := w) (base := base) F_is_size N C_MOST_FIELDS C_MOST_HOSTS D_is_between, PySem.W.mg_of X G a_is_size, k_is_size, F_is_size.binds fun _ _ _ _ _ _ us hl => match us, hl with | [_, _], _ => rfl⟩⟩
  have D_is_part : Def l.prog w K mg base CX0 4 "is_part" ["part"] sp_is_part := ⟨⟨_, _, ok_is_part (P := l.prog) (w := w) (base := base) F_is_part N D_is_from D_sends_hosts, PySem.W.mg_of X G a_is_part, k_is_part, F_is_part.binds fun _ _ _ _ _ _ us hl => match us, hl with | [_], _ => rfl⟩⟩
  have D_is_mix : Def l.prog w K mg base CX0 5 "is_mix" ["mix"] sp_is_mix := ⟨⟨_, _, ok_is_mix (P := l.prog) (w := w) (base := base) F_is_mix N D_is_part D_is_plan D_is_size, PySem.W.mg_of X G a_is_mix, k_is_mix, F_is_mix.binds fun _ _ _ _ _ _ us hl => match us, hl with | [_], _ => rfl⟩⟩
  have D_look_mix : Def l.prog w K mg base (CXR l.prog w) 6 "look_mix" ["mix"] (sp_look_mix a_NoMix) := ⟨⟨_, _, ok_look_mix (P := l.prog) (w := w) (base := base) F_look_mix N D_is_mix Z, PySem.W.mg_of X G a_look_mix, k_look_mix, F_look_mix.binds fun _ _ _ _ _ _ us hl => match us, hl with | [_], _ => rfl⟩⟩
  have D_is_flow : Def l.prog w K mg base CX0 4 "is_flow" ["thing"] sp_is_flow := ⟨⟨_, _, ok_is_flow (P := l.prog) (w := w) (base := base) F_is_flow N D_is_between D_is_from, PySem.W.mg_of X G a_is_flow, k_is_flow, F_is_flow.binds fun _ _ _ _ _ _ us hl => match us, hl with | [_], _ => rfl⟩⟩
  have D_is_row : Def l.prog w K mg base CX0 5 "is_row" ["row"] sp_is_row := ⟨⟨_, _, ok_is_row (P := l.prog) (w := w) (base := base) F_is_row N D_is_flow, PySem.W.mg_of X G a_is_row, k_is_row, F_is_row.binds fun _ _ _ _ _ _ us hl => match us, hl with | [_], _ => rfl⟩⟩
  have D_begins : Def l.prog w K mg base CX0 6 "begins" ["stream"] sp_begins := ⟨⟨_, _, ok_begins (P := l.prog) (w := w) (base := base) F_begins N D_is_row, PySem.W.mg_of X G a_begins, k_begins, F_begins.binds fun _ _ _ _ _ _ us hl => match us, hl with | [_], _ => rfl⟩⟩
  have D_summed : Def l.prog w K mg base CX0 1 "summed" ["pairs"] sp_summed := ⟨⟨_, _, ok_summed (P := l.prog) (w := w) (base := base) F_summed N , PySem.W.mg_of X G a_summed, k_summed, F_summed.binds fun _ _ _ _ _ _ us hl => match us, hl with | [_], _ => rfl⟩⟩
  have D_meets : Def l.prog w K mg base CX0 2 "meets" ["ahead", "row"] sp_meets := ⟨⟨_, _, ok_meets (P := l.prog) (w := w) (base := base) F_meets N D_summed, PySem.W.mg_of X G a_meets, k_meets, F_meets.binds fun _ _ _ _ _ _ us hl => match us, hl with | [_, _], _ => rfl⟩⟩
  have D_is_stream : Def l.prog w K mg base CX0 7 "is_stream" ["hosts", "fields", "stream"] sp_is_stream := ⟨⟨_, _, ok_is_stream (P := l.prog) (w := w) (base := base) F_is_stream N D_begins D_is_row D_meets, PySem.W.mg_of X G a_is_stream, k_is_stream, F_is_stream.binds fun _ _ _ _ _ _ us hl => match us, hl with | [_, _, _], _ => rfl⟩⟩
  have D_row_of : Def l.prog w K mg base CX0 2 "row_of" ["mix", "field"] sp_row_of := ⟨⟨_, _, ok_row_of (P := l.prog) (w := w) (base := base) F_row_of N D_summed, PySem.W.mg_of X G a_row_of, k_row_of, F_row_of.binds fun _ _ _ _ _ _ us hl => match us, hl with | [_, _], _ => rfl⟩⟩
  have D_stream_of : Def l.prog w K mg base (CXR l.prog w) 7 "stream_of" ["mix"] (sp_stream_of a_NoMix) := ⟨⟨_, _, ok_stream_of (P := l.prog) (w := w) (base := base) F_stream_of N D_look_mix D_row_of, PySem.W.mg_of X G a_stream_of, k_stream_of, F_stream_of.binds fun _ _ _ _ _ _ us hl => match us, hl with | [_], _ => rfl⟩⟩
  have D__law_mix : Def l.prog w K mg base CX0 1 "_law_mix" ["_law_number", "_law_k"] sp__law_mix := ⟨⟨_, _, ok__law_mix (P := l.prog) (w := w) (base := base) F__law_mix N , PySem.W.mg_of X G a__law_mix, k__law_mix, F__law_mix.binds fun _ _ _ _ _ _ us hl => match us, hl with | [_, _], _ => rfl⟩⟩
  have D__law_cell_at : Def l.prog w K mg base CX0 1 "_law_cell_at" ["_law_script", "_law_k"] sp__law_cell_at := ⟨⟨_, _, ok__law_cell_at (P := l.prog) (w := w) (base := base) F__law_cell_at N , PySem.W.mg_of X G a__law_cell_at, k__law_cell_at, F__law_cell_at.binds fun _ _ _ _ _ _ us hl => match us, hl with | [_, _], _ => rfl⟩⟩
  have D__law_left : Def l.prog w K mg base CX0 2 "_law_left" ["_law_script", "_law_k"] sp__law_left := ⟨⟨_, _, ok__law_left (P := l.prog) (w := w) (base := base) F__law_left N D__law_cell_at, PySem.W.mg_of X G a__law_left, k__law_left, F__law_left.binds fun _ _ _ _ _ _ us hl => match us, hl with | [_, _], _ => rfl⟩⟩
  have D__law_draw : Def l.prog w K mg base CX0 2 "_law_draw" ["_law_left_here", "_law_base"] sp__law_draw := ⟨⟨_, _, ok__law_draw (P := l.prog) (w := w) (base := base) F__law_draw N D__law_mix, PySem.W.mg_of X G a__law_draw, k__law_draw, F__law_draw.binds fun _ _ _ _ _ _ us hl => match us, hl with | [_, _], _ => rfl⟩⟩
  have D__law_plan : Def l.prog w K mg base CX0 3 "_law_plan" ["_law_left_here", "_law_hosts", "_law_many"] sp__law_plan := ⟨⟨_, _, ok__law_plan (P := l.prog) (w := w) (base := base) F__law_plan N D__law_draw, PySem.W.mg_of X G a__law_plan, k__law_plan, F__law_plan.binds fun _ _ _ _ _ _ us hl => match us, hl with | [_, _, _], _ => rfl⟩⟩
  have D__law_lot : Def l.prog w K mg base CX0 4 "_law_lot" ["_law_left_here", "_law_most", "_law_fields", "_law_parts"] sp__law_lot := ⟨⟨_, _, ok__law_lot (P := l.prog) (w := w) (base := base) F__law_lot N D__law_draw D__law_plan, PySem.W.mg_of X G a__law_lot, k__law_lot, F__law_lot.binds fun _ _ _ _ _ _ us hl => match us, hl with | [_, _, _, _], _ => rfl⟩⟩
  have D__law_flows : Def l.prog w K mg base CX0 1 "_law_flows" ["_law_mix_here"] sp__law_flows := ⟨⟨_, _, ok__law_flows (P := l.prog) (w := w) (base := base) F__law_flows N , PySem.W.mg_of X G a__law_flows, k__law_flows, F__law_flows.binds fun _ _ _ _ _ _ us hl => match us, hl with | [_], _ => rfl⟩⟩
  have D__law_deep : Def l.prog w K mg base CX0 10 "_law_deep" ["_law_thing"] sp__law_deep := ⟨⟨_, _, ok__law_deep (P := l.prog) (w := w) (base := base) F__law_deep N  (PySem.W.mg_of X G a__law_deep) k__law_deep (F__law_deep.binds fun _ _ _ _ _ _ us hl => match us, hl with | [_], _ => rfl), PySem.W.mg_of X G a__law_deep, k__law_deep, F__law_deep.binds fun _ _ _ _ _ _ us hl => match us, hl with | [_], _ => rfl⟩⟩
  have D__law_bent : Def l.prog w K mg base CX0 3 "_law_bent" ["_law_left_here", "_law_mix_here"] sp__law_bent := ⟨⟨_, _, ok__law_bent (P := l.prog) (w := w) (base := base) F__law_bent N D__law_draw, PySem.W.mg_of X G a__law_bent, k__law_bent, F__law_bent.binds fun _ _ _ _ _ _ us hl => match us, hl with | [_, _], _ => rfl⟩⟩
  have D__law_is_mix : Def l.prog w K mg base CX0 1 "_law_is_mix" ["_law_mix_here"] sp__law_is_mix := ⟨⟨_, _, ok__law_is_mix (P := l.prog) (w := w) (base := base) F__law_is_mix N , PySem.W.mg_of X G a__law_is_mix, k__law_is_mix, F__law_is_mix.binds fun _ _ _ _ _ _ us hl => match us, hl with | [_], _ => rfl⟩⟩
  have D__law_refused : Def l.prog w K mg base CX0 8 "_law_refused" ["_law_mix_here"] sp__law_refused := ⟨⟨_, _, ok__law_refused (P := l.prog) (w := w) (base := base) F__law_refused N D_stream_of Z, PySem.W.mg_of X G a__law_refused, k__law_refused, F__law_refused.binds fun _ _ _ _ _ _ us hl => match us, hl with | [_], _ => rfl⟩⟩
  exact ok_law (P := l.prog) (w := w) (base := base) F_law N D__law_bent D__law_deep D__law_draw D__law_flows D__law_is_mix D__law_left D__law_lot D__law_refused D_is_stream D_stream_of
theorem walk {l : PySem.W.OpenLaw} {q : Program} {loose : List Str} {XP : (Str → Option Value) → Heap → Prop} {YP : World → Heap → Prop} {d : DefRec} {K : Params → PySem.W.Frag} (hn : l.most = some 63) (hdf : d.params.defaults = [])
    (hY : ∀ (w : World) (h : Heap), YP w h → (K w.params).In h)
    (F : ∀ (w : World) (mg : Str → Option Value) (fa : Addr) (h : Heap), (K w.params).In h → h.Ns mainGlobals mg → mg d.name = some (.ref fa) →
      ∃ fd : FuncData, (∀ (s : Shared) (u : Value), BindsTo s fd ⟨[u], []⟩ [("_law_script", u)]) ∧ ∀ base : Heap, (K w.params).In base → base.Ns mainGlobals mg → FnOk l.prog w (K w.params) mg base CX0 11 fa fd ["_law_script"] (spLaw (K w.params))) :
    PySem.W.WalkO q loose XP YP l.row.toRowW d [] (fun f vs => PySem.call f vs) :=
  L2.walk_of (n := 63) (k := 11) (x := "_law_script") (CX := fun _ => CX0) (sp := fun w => spLaw (K w.params)) hn (by decide) hdf ⟨rfl, by decide, by decide, rfl⟩ hY F (fun _ _ a ns hl _ hS => ⟨a, ns, rfl, hS, hl, fun _ => rfl⟩) fun _ _ _ _ _ z => z
end G
theorem PySem.W.Fast.tw8051234448037890325 : True := trivial
theorem PySem.W.Fast.tw17600539596625677332 : True := trivial
theorem PySem.W.Fast.tw13280250389870967973 : True := trivial
theorem PySem.W.Fast.tw9648006868535732004 : True := trivial
theorem PySem.W.Fast.tw16949582846302214399 : True := trivial
theorem PySem.W.Fast.tw1438063325365898602 : True := trivial
theorem PySem.W.Fast.tw12800262132125920671 : True := trivial
theorem PySem.W.Fast.tw16175370424835588236 : True := trivial
theorem PySem.W.Fast.tw6550724130631088717 : True := trivial
theorem PySem.W.Fast.tw1345632919740335808 : True := trivial
theorem PySem.W.Fast.tw16045944748630201220 : True := trivial
theorem PySem.W.Fast.tw18031524846203147064 : True := trivial
theorem PySem.W.Fast.tw7485917567897139407 : True := trivial
theorem PySem.W.Fast.tw3594899539613554932 : True := trivial
open PySem PySem.W PyProof.Rows
set_option maxRecDepth 100000 in
set_option maxHeartbeats 0 in
theorem PySem.Challenge.cw_hostfields_k20_streams_of_mixes_holds : PySem.Challenge.rw_hostfields_k20_streams_of_mixes.Holds := by
  w_on; o_law; k_head; (case hw => w_witness2)
  k_fill
  refine G.walk (l := PySem.Challenge.rw_hostfields_k20_streams_of_mixes) rfl rfl (fun w h Y => PySem.W.kIn_of Y) ?F
  case F =>
    intro w mg fa h KX GG hmg
    refine' G.all_mk KX GG hmg ?e_MOST_HOSTS ?e_MOST_FIELDS ?a_is_whole ?l_is_whole ?c_is_whole ?k_is_whole ?a_is_from ?l_is_from ?c_is_from ?k_is_from ?a_is_between ?l_is_between ?c_is_between ?k_is_between ?a_sends_hosts ?l_sends_hosts ?c_sends_hosts ?k_sends_hosts ?a_is_plan ?l_is_plan ?c_is_plan ?k_is_plan ?a_is_size ?l_is_size ?c_is_size ?k_is_size ?a_is_part ?l_is_part ?c_is_part ?k_is_part ?a_is_mix ?l_is_mix ?c_is_mix ?k_is_mix ?a_look_mix ?l_look_mix ?c_look_mix ?k_look_mix ?a_is_flow ?l_is_flow ?c_is_flow ?k_is_flow ?a_is_row ?l_is_row ?c_is_row ?k_is_row ?a_begins ?l_begins ?c_begins ?k_begins ?a_summed ?l_summed ?c_summed ?k_summed ?a_meets ?l_meets ?c_meets ?k_meets ?a_is_stream ?l_is_stream ?c_is_stream ?k_is_stream ?a_row_of ?l_row_of ?c_row_of ?k_row_of ?a_stream_of ?l_stream_of ?c_stream_of ?k_stream_of ?a__law_mix ?l__law_mix ?c__law_mix ?k__law_mix ?a__law_cell_at ?l__law_cell_at ?c__law_cell_at ?k__law_cell_at ?a__law_left ?l__law_left ?c__law_left ?k__law_left ?a__law_draw ?l__law_draw ?c__law_draw ?k__law_draw ?a__law_plan ?l__law_plan ?c__law_plan ?k__law_plan ?a__law_lot ?l__law_lot ?c__law_lot ?k__law_lot ?a__law_flows ?l__law_flows ?c__law_flows ?k__law_flows ?a__law_deep ?l__law_deep ?c__law_deep ?k__law_deep ?a__law_bent ?l__law_bent ?c__law_bent ?k__law_bent ?a__law_is_mix ?l__law_is_mix ?c__law_is_mix ?k__law_is_mix ?a__law_refused ?l__law_refused ?c__law_refused ?k__law_refused ?a_law ?l_law ?c_law ?k_law ?z_ValueError ?z_all ?z_bool ?z_int ?z_isinstance ?z_len ?z_list ?z_range ?z_sorted ?z_sum ?z_tuple ?z_zip ?e_HostError ?kk_HostError ?tt_HostError ?nn_HostError ?e_NoBattle ?kk_NoBattle ?tt_NoBattle ?nn_NoBattle ?e_NoPlan ?kk_NoPlan ?tt_NoPlan ?nn_NoPlan ?e_NoMix ?kk_NoMix ?tt_NoMix ?nn_NoMix ?e_NoStream ?kk_NoStream ?tt_NoStream ?nn_NoStream ?e_NoSide ?kk_NoSide ?tt_NoSide ?nn_NoSide ?e_NoAlike ?kk_NoAlike ?tt_NoAlike ?nn_NoAlike ?e_NoNumber ?kk_NoNumber ?tt_NoNumber ?nn_NoNumber ?bb_HostError ?x_NoMix ?f1_NoMix ?f2_NoMix ?f3_NoMix ?f4_NoMix ?f5_NoMix ?f6_NoMix ?s_NoMix_HostError ?s_NoMix_NoBattle ?s_NoMix_NoPlan ?s_NoMix_NoMix ?s_NoMix_NoStream ?s_NoMix_NoSide ?s_NoMix_NoAlike ?s_NoMix_NoNumber
    (case e_MOST_HOSTS => k_is)
    (case e_MOST_FIELDS => k_is)
    (case a_is_whole => k_is)
    (case l_is_whole => k_is)
    (case c_is_whole => k_is)
    (case k_is_whole => k_is)
    (case a_is_from => k_is)
    (case l_is_from => k_is)
    (case c_is_from => k_is)
    (case k_is_from => k_is)
    (case a_is_between => k_is)
    (case l_is_between => k_is)
    (case c_is_between => k_is)
    (case k_is_between => k_is)
    (case a_sends_hosts => k_is)
    (case l_sends_hosts => k_is)
    (case c_sends_hosts => k_is)
    (case k_sends_hosts => k_is)
    (case a_is_plan => k_is)
    (case l_is_plan => k_is)
    (case c_is_plan => k_is)
    (case k_is_plan => k_is)
    (case a_is_size => k_is)
    (case l_is_size => k_is)
    (case c_is_size => k_is)
    (case k_is_size => k_is)
    (case a_is_part => k_is)
    (case l_is_part => k_is)
    (case c_is_part => k_is)
    (case k_is_part => k_is)
    (case a_is_mix => k_is)
    (case l_is_mix => k_is)
    (case c_is_mix => k_is)
    (case k_is_mix => k_is)
    (case a_look_mix => k_is)
    (case l_look_mix => k_is)
    (case c_look_mix => k_is)
    (case k_look_mix => k_is)
    (case a_is_flow => k_is)
    (case l_is_flow => k_is)
    (case c_is_flow => k_is)
    (case k_is_flow => k_is)
    (case a_is_row => k_is)
    (case l_is_row => k_is)
    (case c_is_row => k_is)
    (case k_is_row => k_is)
    (case a_begins => k_is)
    (case l_begins => k_is)
    (case c_begins => k_is)
    (case k_begins => k_is)
    (case a_summed => k_is)
    (case l_summed => k_is)
    (case c_summed => k_is)
    (case k_summed => k_is)
    (case a_meets => k_is)
    (case l_meets => k_is)
    (case c_meets => k_is)
    (case k_meets => k_is)
    (case a_is_stream => k_is)
    (case l_is_stream => k_is)
    (case c_is_stream => k_is)
    (case k_is_stream => k_is)
    (case a_row_of => k_is)
    (case l_row_of => k_is)
    (case c_row_of => k_is)
    (case k_row_of => k_is)
    (case a_stream_of => k_is)
    (case l_stream_of => k_is)
    (case c_stream_of => k_is)
    (case k_stream_of => k_is)
    (case a__law_mix => k_is)
    (case l__law_mix => k_is)
    (case c__law_mix => k_is)
    (case k__law_mix => k_is)
    (case a__law_cell_at => k_is)
    (case l__law_cell_at => k_is)
    (case c__law_cell_at => k_is)
    (case k__law_cell_at => k_is)
    (case a__law_left => k_is)
    (case l__law_left => k_is)
    (case c__law_left => k_is)
    (case k__law_left => k_is)
    (case a__law_draw => k_is)
    (case l__law_draw => k_is)
    (case c__law_draw => k_is)
    (case k__law_draw => k_is)
    (case a__law_plan => k_is)
    (case l__law_plan => k_is)
    (case c__law_plan => k_is)
    (case k__law_plan => k_is)
    (case a__law_lot => k_is)
    (case l__law_lot => k_is)
    (case c__law_lot => k_is)
    (case k__law_lot => k_is)
    (case a__law_flows => k_is)
    (case l__law_flows => k_is)
    (case c__law_flows => k_is)
    (case k__law_flows => k_is)
    (case a__law_deep => k_is)
    (case l__law_deep => k_is)
    (case c__law_deep => k_is)
    (case k__law_deep => k_is)
    (case a__law_bent => k_is)
    (case l__law_bent => k_is)
    (case c__law_bent => k_is)
    (case k__law_bent => k_is)
    (case a__law_is_mix => k_is)
    (case l__law_is_mix => k_is)
    (case c__law_is_mix => k_is)
    (case k__law_is_mix => k_is)
    (case a__law_refused => k_is)
    (case l__law_refused => k_is)
    (case c__law_refused => k_is)
    (case k__law_refused => k_is)
    (case a_law => k_is)
    (case l_law => k_is)
    (case c_law => k_is)
    (case k_law => k_is)
    (case z_ValueError => k_is)
    (case z_all => k_is)
    (case z_bool => k_is)
    (case z_int => k_is)
    (case z_isinstance => k_is)
    (case z_len => k_is)
    (case z_list => k_is)
    (case z_range => k_is)
    (case z_sorted => k_is)
    (case z_sum => k_is)
    (case z_tuple => k_is)
    (case z_zip => k_is)
    (case e_HostError => k_is)
    (case kk_HostError => k_is)
    (case tt_HostError => k_is)
    (case nn_HostError => k_is)
    (case e_NoBattle => k_is)
    (case kk_NoBattle => k_is)
    (case tt_NoBattle => k_is)
    (case nn_NoBattle => k_is)
    (case e_NoPlan => k_is)
    (case kk_NoPlan => k_is)
    (case tt_NoPlan => k_is)
    (case nn_NoPlan => k_is)
    (case e_NoMix => k_is)
    (case kk_NoMix => k_is)
    (case tt_NoMix => k_is)
    (case nn_NoMix => k_is)
    (case e_NoStream => k_is)
    (case kk_NoStream => k_is)
    (case tt_NoStream => k_is)
    (case nn_NoStream => k_is)
    (case e_NoSide => k_is)
    (case kk_NoSide => k_is)
    (case tt_NoSide => k_is)
    (case nn_NoSide => k_is)
    (case e_NoAlike => k_is)
    (case kk_NoAlike => k_is)
    (case tt_NoAlike => k_is)
    (case nn_NoAlike => k_is)
    (case e_NoNumber => k_is)
    (case kk_NoNumber => k_is)
    (case tt_NoNumber => k_is)
    (case nn_NoNumber => k_is)
    (case bb_HostError => k_is)
    (case x_NoMix => k_exc)
    (case f1_NoMix => k_is)
    (case f2_NoMix => k_is)
    (case f3_NoMix => k_is)
    (case f4_NoMix => k_is)
    (case f5_NoMix => k_is)
    (case f6_NoMix => k_is)
    (case s_NoMix_HostError => k_is)
    (case s_NoMix_NoBattle => k_is)
    (case s_NoMix_NoPlan => k_is)
    (case s_NoMix_NoMix => k_is)
    (case s_NoMix_NoStream => k_is)
    (case s_NoMix_NoSide => k_is)
    (case s_NoMix_NoAlike => k_is)
    (case s_NoMix_NoNumber => k_is)
