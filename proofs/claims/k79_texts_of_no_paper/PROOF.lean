import PyProof.Rows.All
import Wide.All
import OpenK.AllK
import Wide.FinOn
import Lean
import PyProof.EqAt
import PyProof.EqKinds
import PyProof.TupleCall
import PyProof.NeKinds
import PyProof.CompFree
import PyProof.EnumMake
import KE.KTryMore
import PyProof.ExcArgsOwn
import PyProof.ZipIter
import PyProof.ListRange
import KE.KIsAll
import PyProof.InstStoreFacts
import PyProof.ExcInit
import PyProof.ReprRoads
import PyProof.CallStr
import KE.KEqDict
import PyProof.EqLayable
import KE.KRevIter
import PyProof.CollectIter
import PyProof.Rows.SetFrom
import PyProof.TupleKey
import PyProof.SetScanFacts
import KE.KSortKey
import PyProof.StrLawsRepr
import PyProof.Rows.StrItems
import PyProof.Rows.StrSplitAre
import PySem.Challenge.RW_hostfields_k79_texts_of_no_paper
set_option bootstrap.genMatcherCode false
set_option genSizeOf false
noncomputable section
set_option Elab.async false
set_option linter.all false
set_option maxRecDepth 100000
/-! THE HAND LAYER, for ints, bools, texts, own classes, LISTS and tuples (index, slices, in, append, pop ..), calls, loops. Paste it whole ahead of your own text; what your proof does not reach may be deleted. -/
namespace L2
open PySem PySem.Spec PyProof.Rows

/-- a key: an int or a str -/
abbrev Key := Sum Int Str
def keyIs : Key → Value → Bool
  | .inl k, v => Value.isInt k v
  | .inr x, v => Value.isStrOf x v
def keyH (w : World) : Key → Int
  | .inl k => hashInt k
  | .inr x => hashStr w x
theorem keyIs_shape : ∀ {k : Key} {v : Value}, keyIs k v = true → (∃ i t, k = Sum.inl i ∧ v = Value.int i t) ∨ (∃ x t, k = Sum.inr x ∧ v = Value.str x t)
  | .inl i, v, h => by
    obtain ⟨t, e⟩ := Value.isInt_shape (k := i) (v := v) h
    exact .inl ⟨i, t, rfl, e⟩
  | .inr x, v, h => by
    obtain ⟨t, e⟩ := Value.isStrOf_shape (x := x) (v := v) h
    exact .inr ⟨x, t, rfl, e⟩
theorem keyIs_int (i : Int) (t : Tok) : keyIs (.inl i) (.int i t) = true := by simp [keyIs, Value.isInt]
theorem keyIs_str (x : Str) (t : Tok) : keyIs (.inr x) (.str x t) = true := by simp [keyIs, Value.isStrOf]
theorem key_ll (a b : Int) : decide ((Sum.inl a : Key) = Sum.inl b) = (a == b) := by
  by_cases e : a = b
  · subst e; simp
  · have h : ¬ (Sum.inl a : Key) = Sum.inl b := fun q => e (Sum.inl.inj q)
    rw [decide_eq_false h]
    exact (beq_eq_false_iff_ne.mpr e).symm
theorem key_rr (a b : Str) : decide ((Sum.inr a : Key) = Sum.inr b) = decide (a = b) := by
  by_cases e : a = b
  · subst e; simp
  · have h : ¬ (Sum.inr a : Key) = Sum.inr b := fun q => e (Sum.inr.inj q)
    rw [decide_eq_false h, decide_eq_false e]
theorem key_lr (a : Int) (b : Str) : decide ((Sum.inl a : Key) = Sum.inr b) = false := decide_eq_false (fun q => nomatch q)
theorem key_rl (a : Str) (b : Int) : decide ((Sum.inr a : Key) = Sum.inl b) = false := decide_eq_false (fun q => nomatch q)

noncomputable def mixKind (prog : Program) (w : World) : PySem.KeyKind prog w Key where
  is := keyIs
  hash := keyH w
  inj := fun v a b ha hb => by
    rcases keyIs_shape ha with ⟨i, t, rfl, rfl⟩ | ⟨x, t, rfl, rfl⟩
    · rcases keyIs_shape hb with ⟨j, u, rfl, e⟩ | ⟨y, u, rfl, e⟩
      · injection e with e1 _; rw [e1]
      · exact nomatch e
    · rcases keyIs_shape hb with ⟨j, u, rfl, e⟩ | ⟨y, u, rfl, e⟩
      · exact nomatch e
      · injection e with e1 _; rw [e1]
  byValue := fun k v h => by
    rcases keyIs_shape h with ⟨i, t, rfl, rfl⟩ | ⟨x, t, rfl, rfl⟩ <;> rfl
  pyHash := fun hv h => by
    rcases keyIs_shape hv with ⟨i, t, rfl, rfl⟩ | ⟨x, t, rfl, rfl⟩
    · exact wpAny_pyHash_int h
    · exact wpAny_pyHash_str h
  eqBool := fun hu hv h => by
    rcases keyIs_shape hu with ⟨i, t, rfl, rfl⟩ | ⟨x, t, rfl, rfl⟩
    · rcases keyIs_shape hv with ⟨j, u, rfl, rfl⟩ | ⟨y, u, rfl, rfl⟩
      · rw [key_ll] at h; exact wpAny_eqBool_int h
      · rw [key_lr] at h; exact SeqAt.EqAt.int_str i t y u _ _ _ _ h
    · rcases keyIs_shape hv with ⟨j, u, rfl, rfl⟩ | ⟨y, u, rfl, rfl⟩
      · rw [key_rl] at h; exact SeqAt.EqAt.str_int x t j u _ _ _ _ h
      · rw [key_rr] at h; exact wpAny_eqBool_str h
  «strs» := fun k x t v h => by
    rcases keyIs_shape h with ⟨i, u, rfl, e⟩ | ⟨y, u, rfl, e⟩
    · exact nomatch e
    · injection e with e1 _
      subst e1
      cases v <;> rfl

theorem mixKind_int (prog : Program) (w : World) (i : Int) (t : Tok) : (mixKind prog w).is (.inl i) (.int i t) = true := keyIs_int i t
theorem mixKind_str (prog : Program) (w : World) (x : Str) (t : Tok) : (mixKind prog w).is (.inr x) (.str x t) = true := keyIs_str x t
end L2

namespace L2
open PySem PySem.Spec PyProof.Rows

/-- a value, without the heap -/
inductive V where
  | non | bl (b : Bool) | int (i : Int) | str (x : Str) | byt (b : Array UInt8) | flt (b : UInt64) | ref (a : Addr) | ty (n : String)
  deriving DecidableEq

def RelV : V → Value → Prop
  | .non, u => u = Value.none
  | .bl b, u => u = Value.bool b
  | .int i, u => ∃ t, u = Value.int i t
  | .str x, u => ∃ t, u = Value.str x t
  | .byt b, u => ∃ t, u = Value.bytes b t
  | .flt b, u => ∃ t, u = Value.float b t
  | .ref a, u => u = Value.ref a
  | .ty n, u => u = Value.type n

abbrev Vals : List V → List Value → Prop := Paired RelV
theorem Vals.length {xs : List V} {us : List Value} (r : Vals xs us) : xs.length = us.length := Paired.length r
theorem Vals.get : ∀ {xs : List V} {us : List Value} {i : Nat} {x : V}, Vals xs us → xs[i]? = some x → ∃ u, us[i]? = some u ∧ RelV x u
  | _, _, _, _, .nil, e => by simp at e
  | _, _, 0, _, .cons r _, e => by simp at e; subst e; exact ⟨_, rfl, r⟩
  | _, _, i + 1, x, .cons _ t, e => by
    obtain ⟨u, h1, h2⟩ := Vals.get (i := i) (x := x) t (by simpa using e)
    exact ⟨u, by simpa using h1, h2⟩
theorem Vals.set {x : V} {u : Value} (r : RelV x u) : ∀ {xs : List V} {us : List Value} (i : Nat), Vals xs us → Vals (xs.set i x) (us.set i u)
  | _, _, _, .nil => .nil
  | _, _, 0, .cons _ t => .cons r t
  | _, _, i + 1, .cons q t => .cons q (Vals.set r i t)
theorem Vals.append : ∀ {xs ys : List V} {us ws : List Value}, Vals xs us → Vals ys ws → Vals (xs ++ ys) (us ++ ws)
  | _, _, _, _, .nil, s => s
  | _, _, _, _, .cons r t, s => .cons r (Vals.append t s)
theorem Vals.take : ∀ {xs : List V} {us : List Value} (n : Nat), Vals xs us → Vals (xs.take n) (us.take n)
  | _, _, 0, _ => .nil
  | _, _, _ + 1, .nil => .nil
  | _, _, n + 1, .cons r t => .cons r (Vals.take n t)
theorem Vals.drop : ∀ {xs : List V} {us : List Value} (n : Nat), Vals xs us → Vals (xs.drop n) (us.drop n)
  | _, _, 0, r => r
  | _, _, _ + 1, .nil => .nil
  | _, _, n + 1, .cons _ t => Vals.drop n t
def RelO : Option V → Option Value → Prop
  | some v, some u => RelV v u
  | none, none => True
  | _, _ => False
def KV {κ : Type} : List (κ × V) → List (κ × Value) → Prop := Paired fun (p : κ × V) (q : κ × Value) => p.1 = q.1 ∧ RelV p.2 q.2

/-- a key of a dict (00_mix): an int or a text -/
def kV : Key → V
  | .inl i => .int i
  | .inr x => .str x

/-- what stands at a tracked address -/
inductive HO where
  /-- a list -/
  | lst (xs : List V)
  /-- a tuple (never changes) -/
  | tup (xs : List V)
  /-- a dict whose keys are ints and texts; one whose keys are tuples of ints and texts (the empty one is both) -/
  | dK (kvs : List (Key × V)) | dT (kvs : List (List Key × V))
  /-- a set of ints: its members, its size -/
  | set (S : Int → Bool) (n : Nat)
  /-- an instance of the class at C, its dict at dx, its attributes -/
  | ins (C dx : Addr) (fs : List (Str × V))
  /-- the dict of the instance at x -/
  | own (x : Addr)
  /-- the dict of an exception -/
  | xd (fs : List (Str × V))
  /-- a bound method, f of x -/
  | met (f x : Addr)
  /-- a range object lo, lo + 1, .. below hi -/
  | rng (lo hi : Int)
  /-- a thing that is known to the object (the script; a dict while a loop walks it): read, never written while it is so -/
  | frz (o : Obj) (u : HO)
  /-- a code object's table -/
  | tbl (ps : Array Value)
  /-- any other thing, by what is true of its one object (a def of one's own: SetO a S n := HO.ext fun h => ..) -/
  | ext (φ : Heap → Prop)

abbrev Hp := Addr → Option HO
def upd (H : Hp) (a : Addr) (o : HO) : Hp := fun b => if b = a then some o else H b
theorem upd_same {H : Hp} {a : Addr} {o : HO} : upd H a o a = some o := by unfold upd; rw [if_pos rfl]
theorem upd_ne {H : Hp} {a b : Addr} {o : HO} (h : b ≠ a) : upd H a o b = H b := by unfold upd; rw [if_neg h]
theorem ne_of_none {H : Hp} {a b : Addr} {o : HO} (h : H a = some o) (h' : H b = none) : a ≠ b := by
  intro e; subst e; rw [h] at h'; cases h'

section
variable (P : Program) (w : World)
noncomputable def ObjOk (H : Hp) (h : Heap) (a : Addr) : HO → Prop
  | .lst xs => xs.length ≤ sizeLine ∧ ∃ (its : List Value) (n : Nat), Vals xs its ∧ h.get? a = some { cls := .type "list", data := .seq its.toArray n }
  | .tup xs => xs.length ≤ sizeLine ∧ ∃ its : List Value, Vals xs its ∧ IsTup h a its.toArray
  | .dK kvs => kvs.length ≤ sizeLine ∧ (a == sysModules) = false ∧ ∃ vs, KV kvs vs ∧ h.DictOf (mixKind P w) a vs
  | .dT kvs => kvs.length ≤ sizeLine ∧ (a == sysModules) = false ∧ ∃ xs : List (List Key × Addr × Value),
      Paired (fun (p : List Key × V) (q : List Key × Addr × Value) => p.1 = q.1 ∧ H q.2.1 = some (.tup (p.1.map kV)) ∧ RelV p.2 q.2.2) kvs xs ∧
      ∃ o es ep, h.get? a = some o ∧ o.ExactDict ∧ o.data = .dict es ep ∧ es.toList = xs.map (entryOfKey (tupleKind (mixKind P w))) ∧ (xs.map (·.1)).Nodup
  | .set S n => h.SetOf (intKind P w) a S n
  | .ins C dx fs => H dx = some (.own a) ∧ fs.length ≤ 1000 ∧ dx ≠ a ∧ h.get? a = some (PySem.W.instObj C dx) ∧
      ∃ mA, h.Ns1 dx mA ∧ (∀ f, RelO (fs.lookup f) (mA f)) ∧ PySem.Within mA (fs.map (·.1))
  | .own _ => ∃ o, h.get? a = some o
  | .xd fs => ∃ mA, h.Ns1 a mA ∧ ∀ f, RelO (fs.lookup f) (mA f)
  | .rng lo hi => ∃ t u v, h.get? a = some { cls := .type "range", data := .fields #[.int lo t, .int hi u, .int 1 v] }
  | .frz o u => h.get? a = some o ∧ ObjOk H h a u
  | .tbl ps => h.get? a = some { cls := .none, data := .fields ps }
  | .met f x => h.get? a = some (PySem.W.methodObj (.ref f) (.ref x))
  | .ext φ => φ h ∧ (∃ o, h.get? a = some o) ∧ ∀ h1 h2 : Heap, φ h1 → (∀ o, h1.get? a = some o → h2.get? a = some o) → φ h2
/-- the abstract heap is held -/
def HOk (H : Hp) (h : Heap) : Prop := ∀ a o, H a = some o → ObjOk P w H h a o
end

section
variable {P : Program} {w : World} {H H' : Hp} {h h' : Heap} {a : Addr} {o : HO}
theorem ObjOk.lt (x : ObjOk P w H h a o) : a < h.objs.size := by
  cases o with
  | lst xs => obtain ⟨_, _, _, _, e⟩ := x; exact Heap.lt_size e
  | tup xs => obtain ⟨_, _, _, p⟩ := x; exact p.lt
  | dK kvs => obtain ⟨_, _, _, _, o, _, _, e, _⟩ := x; exact Heap.lt_size e
  | dT kvs => obtain ⟨_, _, _, _, o, _, _, e, _⟩ := x; exact Heap.lt_size e
  | set S n => obtain ⟨o, _, _, _, e, _⟩ := x; exact Heap.lt_size e
  | ins C dx fs => obtain ⟨_, _, _, e, _⟩ := x; exact Heap.lt_size e
  | own y => obtain ⟨_, e⟩ := x; exact Heap.lt_size e
  | xd fs => obtain ⟨_, ⟨_, _, _, e, _⟩, _⟩ := x; exact Heap.lt_size e
  | rng lo hi => obtain ⟨_, _, _, e⟩ := x; exact Heap.lt_size e
  | frz ob u => obtain ⟨e, _⟩ := x; exact Heap.lt_size e
  | tbl ps => exact Heap.lt_size (show h.get? a = some _ from x)
  | met f y => exact Heap.lt_size (show h.get? a = some _ from x)
  | ext φ => obtain ⟨_, ⟨_, e⟩, _⟩ := x; exact Heap.lt_size e
theorem Paired.mapP {α β : Type} {F G : α → β → Prop} : ∀ {l₁ : List α} {l₂ : List β}, Paired F l₁ l₂ → (∀ a b, F a b → G a b) → Paired G l₁ l₂
  | _, _, .nil, _ => .nil
  | _, _, .cons r t, f => .cons (f _ _ r) (Paired.mapP t f)
/-- what an object's description leans on: its own object, its own dict, the tuples -/
theorem ObjOk.stay (x : ObjOk P w H h a o) (k : ∀ b u, (b = a ∨ H b = some (.own a)) → h.get? b = some u → h'.get? b = some u)
    (ho : ∀ b, H b = some (.own a) → H' b = some (.own a)) (ht : ∀ b xs, H b = some (.tup xs) → H' b = some (.tup xs)) : ObjOk P w H' h' a o := by
  induction o with
  | lst xs => obtain ⟨z, its, n, r, e⟩ := x; exact ⟨z, its, n, r, k _ _ (.inl rfl) e⟩
  | tup xs => obtain ⟨z, its, r, ob, e, c⟩ := x; exact ⟨z, its, r, ob, k _ _ (.inl rfl) e, c⟩
  | dK kvs => obtain ⟨z, y, vs, r, ob, es, ep, e, c⟩ := x; exact ⟨z, y, vs, r, ob, es, ep, k _ _ (.inl rfl) e, c⟩
  | dT kvs =>
    obtain ⟨z, y, xs, r, ob, es, ep, e, c⟩ := x
    exact ⟨z, y, xs, Paired.mapP r fun p q z => ⟨z.1, ht _ _ z.2.1, z.2.2⟩, ob, es, ep, k _ _ (.inl rfl) e, c⟩
  | set S n => obtain ⟨ob, es, ep, t, e, c⟩ := x; exact ⟨ob, es, ep, t, k _ _ (.inl rfl) e, c⟩
  | ins C dx fs =>
    obtain ⟨d, z, ne, e, mA, ⟨od, es, ep, e2, c⟩, r⟩ := x
    exact ⟨ho _ d, z, ne, k _ _ (.inl rfl) e, mA, ⟨od, es, ep, k _ _ (.inr d) e2, c⟩, r⟩
  | own y => obtain ⟨ob, e⟩ := x; exact ⟨ob, k _ _ (.inl rfl) e⟩
  | xd fs => obtain ⟨mA, ⟨od, es, ep, e, c⟩, r⟩ := x; exact ⟨mA, ⟨od, es, ep, k _ _ (.inl rfl) e, c⟩, r⟩
  | rng lo hi => obtain ⟨t, u, v, e⟩ := x; exact ⟨t, u, v, k _ _ (.inl rfl) e⟩
  | frz ob u ih => obtain ⟨e, q⟩ := x; exact ⟨k _ _ (.inl rfl) e, ih q⟩
  | tbl ps =>
    have e : h.get? a = some { cls := .none, data := .fields ps } := x
    show h'.get? a = some { cls := .none, data := .fields ps }
    exact k a _ (.inl rfl) e
  | met f y =>
    have e : h.get? a = some (PySem.W.methodObj (.ref f) (.ref y)) := x
    show h'.get? a = some (PySem.W.methodObj (.ref f) (.ref y))
    exact k a _ (.inl rfl) e
  | ext φ => obtain ⟨p, ⟨o, e⟩, st⟩ := x; exact ⟨st _ _ p fun o q => k _ _ (.inl rfl) q, ⟨o, k _ _ (.inl rfl) e⟩, st⟩
theorem HOk.lt (x : HOk P w H h) (e : H a = some o) : a < h.objs.size := (x a o e).lt
theorem HOk.fresh (x : HOk P w H h) (e : h.objs.size ≤ a) : H a = none := by
  cases q : H a with
  | none => rfl
  | some u => exact absurd (Nat.lt_of_lt_of_le (x.lt q) e) (Nat.lt_irrefl _)
/-- every object of the heap is kept -/
theorem HOk.kept (x : HOk P w H h) (k : ∀ b u, h.get? b = some u → h'.get? b = some u) : HOk P w H h' := fun a o e =>
  (x a o e).stay (fun b u _ q => k b u q) (fun _ q => q) fun _ _ q => q
/-- a new object is laid and tracked -/
theorem HOk.laid (x : HOk P w H h) (k : ∀ b u, h.get? b = some u → h'.get? b = some u) (hp : h.objs.size ≤ a) (new : ObjOk P w (upd H a o) h' a o) : HOk P w (upd H a o) h' := fun b u e => by
  have hn := x.fresh hp
  by_cases hb : b = a
  · subst hb; rw [upd_same] at e; cases e; exact new
  · rw [upd_ne hb] at e
    exact (x b u e).stay (fun c v _ q => k c v q) (fun c q => by rw [upd_ne (ne_of_none q hn)]; exact q) fun c xs q => by rw [upd_ne (ne_of_none q hn)]; exact q
end

/-- what may be read as u: it is u, or a known u -/
def Rd (H : Hp) (a : Addr) (u : HO) : Prop := H a = some u ∨ ∃ o, H a = some (.frz o u)
theorem Rd.of {H : Hp} {a : Addr} {u : HO} (h : H a = some u) : Rd H a u := .inl h
theorem Rd.ok {P : Program} {w : World} {H : Hp} {h : Heap} {a : Addr} {u : HO} (r : Rd H a u) (x : HOk P w H h) : ObjOk P w H h a u := by
  rcases r with r | ⟨o, r⟩
  · exact x a u r
  · obtain ⟨_, q⟩ := x a _ r
    exact q
/-- what may be written -/
def Mut : Option HO → Prop
  | some (.lst _) => True
  | some (.dK _) => True
  | some (.dT _) => True
  | some (.set _ _) => True
  | some (.ins _ _ _) => True
  | some (.ext _) => True
  | _ => False
section
variable {P : Program} {w : World} {H : Hp} {h h' : Heap} {x e : Addr} {o' : HO}
/-- the object at e is changed: x itself, or the dict of the instance x -/
theorem HOk.write (ok : HOk P w H h) (mu : Mut (H x)) (he : e = x ∨ H e = some (.own x)) (k : ∀ b u, b ≠ e → h.get? b = some u → h'.get? b = some u) (heo : ∃ u, h'.get? e = some u)
    (new : ObjOk P w (upd H x o') h' x o') : HOk P w (upd H x o') h' := fun b u q => by
  have nown : ∀ c y, H c = some (.own y) → c ≠ x := fun c y r z => by subst z; rw [r] at mu; exact mu
  have ntup : ∀ c xs, H c = some (.tup xs) → c ≠ x := fun c xs r z => by subst z; rw [r] at mu; exact mu
  by_cases hb : b = x
  · subst hb; rw [upd_same] at q; cases q; exact new
  · rw [upd_ne hb] at q
    by_cases hbe : b = e
    · have q' : H b = some (.own x) := by
        rcases he with z | z
        · exact absurd (hbe.trans z) hb
        · rw [hbe]; exact z
      rw [q] at q'; cases q'
      obtain ⟨v, hv⟩ := heo
      exact ⟨v, by rw [hbe]; exact hv⟩
    · refine (ok b u q).stay (fun c v hc r => k c v ?_ r) (fun c r => by rw [upd_ne (nown c b r)]; exact r) fun c xs r => by rw [upd_ne (ntup c xs r)]; exact r
      rcases hc with rfl | hc
      · exact hbe
      · rintro rfl
        rcases he with z | z
        · exact nown c b hc z
        · rw [hc] at z; cases z; exact hb rfl
end

/-! ### kept unless tracked; of the frames at fs (the callers') the slots may change (an exception that passes writes there); of the records at ex (iterators) nothing is said -/
structure Un (fs ex : List Addr) (H H' : Hp) (h h' : Heap) : Prop where
  keep : ∀ b o, h.get? b = some o → H b = none → b ∉ fs → b ∉ ex → h'.get? b = some o
  slot : ∀ b o, h.get? b = some o → H b = none → b ∈ fs → b ∉ ex → ∃ sl, h'.get? b = some { o with slots := sl }
  free : ∀ b o, h.get? b = some o → H b = none → b ∉ ex → H' b = none
  there : ∀ b o, h.get? b = some o → b ∉ ex → ∃ o', h'.get? b = some o'
  tups : ∀ b xs, H b = some (.tup xs) → H' b = some (.tup xs)
  frzs : ∀ b o u, H b = some (.frz o u) → H' b = some (.frz o u)
  tbls : ∀ b ps, H b = some (.tbl ps) → ∃ more, H' b = some (.tbl (ps ++ more))
section
variable {fs fs' ex ex' : List Addr} {H H1 H2 : Hp} {h h1 h2 h' : Heap} {a x e : Addr} {o : HO}
theorem Un.any (u : Un fs ex H H1 h h1) {b : Addr} {ob : Obj} (q : h.get? b = some ob) (n : H b = none) (hx : b ∉ ex) : ∃ sl, h1.get? b = some { ob with slots := sl } := by
  by_cases hb : b ∈ fs
  · exact u.slot b ob q n hb hx
  · exact ⟨ob.slots, u.keep b ob q n hb hx⟩
theorem Un.trans (a : Un fs ex H H1 h h1) (b : Un fs ex H1 H2 h1 h2) : Un fs ex H H2 h h2 where
  keep := fun c ob q n hc hx => b.keep c ob (a.keep c ob q n hc hx) (a.free c ob q n hx) hc hx
  slot := fun c ob q n hc hx => by
    obtain ⟨sl, e1⟩ := a.slot c ob q n hc hx
    obtain ⟨sl', e2⟩ := b.slot c _ e1 (a.free c ob q n hx) hc hx
    exact ⟨sl', e2⟩
  free := fun c ob q n hx => by
    obtain ⟨o', e1⟩ := a.there c ob q hx
    exact b.free c o' e1 (a.free c ob q n hx) hx
  there := fun c ob q hx => by
    obtain ⟨o', e1⟩ := a.there c ob q hx
    exact b.there c o' e1 hx
  tups := fun c xs q => b.tups c xs (a.tups c xs q)
  frzs := fun c ob xs q => b.frzs c ob xs (a.frzs c ob xs q)
  tbls := fun c ps q => by
    obtain ⟨m1, e1⟩ := a.tbls c ps q
    obtain ⟨m2, e2⟩ := b.tbls c _ e1
    exact ⟨m1 ++ m2, by rw [e2, Array.append_assoc]⟩
theorem Un.kept (k : ∀ b u, h.get? b = some u → h'.get? b = some u) : Un fs ex H H h h' :=
  ⟨fun b ob q _ _ _ => k b ob q, fun b ob q _ _ _ => ⟨ob.slots, k b ob q⟩, fun _ _ _ n _ => n, fun b ob q _ => ⟨ob, k b ob q⟩, fun _ _ q => q, fun _ _ _ q => q, fun _ ps q => ⟨#[], by rw [q]; simp⟩⟩
theorem Un.refl : Un fs ex H H h h := Un.kept fun _ _ q => q
theorem Un.laid (k : ∀ b u, h.get? b = some u → h'.get? b = some u) (hp : h.objs.size ≤ a) (hn : H a = none) : Un fs ex H (upd H a o) h h' where
  keep := fun b u q _ _ _ => k b u q
  slot := fun b u q _ _ _ => ⟨u.slots, k b u q⟩
  free := fun b u q n _ => by rw [upd_ne (Nat.ne_of_lt (Nat.lt_of_lt_of_le (Heap.lt_size q) hp))]; exact n
  there := fun b u q _ => ⟨u, k b u q⟩
  tups := fun b xs q => by rw [upd_ne (ne_of_none q hn)]; exact q
  frzs := fun b u xs q => by rw [upd_ne (ne_of_none q hn)]; exact q
  tbls := fun b ps q => ⟨#[], by rw [upd_ne (ne_of_none q hn), q]; simp⟩
theorem Un.write (mu : Mut (H x)) (he : e = x ∨ H e = some (.own x)) (k : ∀ b u, b ≠ e → h.get? b = some u → h'.get? b = some u) (heo : ∃ u, h'.get? e = some u) : Un fs ex H (upd H x o) h h' := by
  have hx : ∀ b, H b = none → b ≠ x := fun b n z => by subst z; rw [n] at mu; exact mu
  have hb : ∀ b, H b = none → b ≠ e := fun b n z => by
    subst z
    rcases he with r | r
    · exact hx b n r
    · rw [n] at r; cases r
  have hm : ∀ b u, H b = some u → ¬ Mut (some u) → b ≠ x := fun b u q nm z => by subst z; rw [q] at mu; exact nm mu
  refine ⟨fun b u q n _ _ => k b u (hb b n) q, fun b u q n _ _ => ⟨u.slots, k b u (hb b n) q⟩, fun b u q n _ => by rw [upd_ne (hx b n)]; exact n, fun b u q _ => ?_,
    fun b xs q => by rw [upd_ne (hm b _ q fun z => z)]; exact q, fun b u xs q => by rw [upd_ne (hm b _ q fun z => z)]; exact q, fun b ps q => ⟨#[], by rw [upd_ne (hm b _ q fun z => z), q]; simp⟩⟩
  by_cases hbe : b = e
  · subst hbe; exact heo
  · exact ⟨u, k b u hbe q⟩
theorem Un.mono (u : Un fs ex H H1 h h1) (hs : ∀ b ∈ fs, b ∈ fs') (hx : ∀ b ∈ ex, b ∈ ex') : Un fs' ex' H H1 h h1 :=
  ⟨fun b ob q n hb he => u.keep b ob q n (fun z => hb (hs b z)) fun z => he (hx b z), fun _ _ q n _ he => u.any q n fun z => he (hx _ z), fun b ob q n he => u.free b ob q n fun z => he (hx b z), fun b ob q he => u.there b ob q fun z => he (hx b z), u.tups, u.frzs, u.tbls⟩
end

/-! ### the heap without what is tracked -/
def trk (h : Heap) (H : Hp) : List Addr := (List.range h.objs.size).filter fun a => (H a).isSome
def hidT (h : Heap) (H : Hp) : Heap := PySem.W.hideAll h (trk h H)
theorem hidT_size (h : Heap) (H : Hp) : (hidT h H).objs.size = h.objs.size := PySem.W.hideAll_size _ _
theorem hidT_get {h : Heap} {H : Hp} {b : Addr} {o : Obj} (e : h.get? b = some o) (n : H b = none) : (hidT h H).get? b = some o :=
  PySem.W.hideAll_get _ e fun hm => by
    have q : (H b).isSome = true := (List.mem_filter.mp hm).2
    rw [n] at q; simp at q
theorem of_hidT {h : Heap} {H : Hp} {b : Addr} {o : Obj} (e : (hidT h H).get? b = some o) : h.get? b = some o ∧ H b = none := by
  have e' : h.get? b = some o := PySem.W.of_hideAll (trk h H) e
  refine ⟨e', ?_⟩
  cases q : H b with
  | none => rfl
  | some x =>
    have hm : b ∈ trk h H := List.mem_filter.mpr ⟨List.mem_range.mpr (Heap.lt_size e'), by simp [q]⟩
    have z : (hidT h H).get? b = none := PySem.W.hideAll_none (trk h H) hm
    rw [z] at e; cases e

/-! ### OpenK's ledger, filled with every new object but one -/
def allNews (g h : Heap) (L : Addr) : List (Addr × Obj) := (List.range h.objs.size).filterMap fun a => if a = L ∨ (g.get? a).isSome = true then none else (h.get? a).map fun o => (a, o)
def rest (g h : Heap) (L d : Addr) : List (Addr × Obj) := (allNews g h L).filter fun p => decide (p.1 ≠ d)
end L2

namespace L2
open PySem PySem.Spec PyProof.Rows

/-- the module's facts, over the base: the heap at the law's entry without what is tracked there -/
structure Mod (K : PySem.W.Frag) (mg : Str → Option Value) (base : Heap) : Prop where
  kin : K.In base
  glob : base.Ns mainGlobals mg
  blt : ∃ mb, base.Ns builtinsNs mb ∧ ∀ x : Str, x ≠ "__name__" → mb x = bootBuiltins x
  nolimit : base.NoLimit

/-- the context: a def's body (or a comprehension's block) running. base: fixed through the whole law; s₀, H₀: the entry; outer: the frames whose slots others may change (a def's callers); stack: all frames that run;
   ex: iterators that were made ahead of the entry and are walked here (a comprehension's); fn: the names whose cells were made at the entry (a def: all; a comprehension's block: its own); calm: not within an except suite; pn: pins that every state bears; xe: what is wanted of an exception that leaves the code -/
structure Cx where
  prog : Program
  w : World
  K : PySem.W.Frag
  mg : Str → Option Value
  base : Heap
  A : Around
  N : List Str
  s₀ : Shared
  H₀ : Hp
  env : Env
  outer : List Env
  stack : List Env
  ex : List Addr
  fn : Str → Bool
  calm : Bool
  pn : List (Addr × Obj)
  xe : Value → Shared → Prop
/-- the callers' frames -/
def frs (l : List Env) : List Addr := l.filterMap (·.frame)
abbrev Cx.fs (X : Cx) : List Addr := frs X.outer

def Vis (sc : Scope) (x : Str) : Prop := sc.names.lookup x = some .local ∨ sc.names.lookup x = some .cell ∨ sc.names.lookup x = some .free
def Loc (sc : Scope) (x : Str) : Prop := sc.names.lookup x = some .local ∨ sc.names.lookup x = some .cell
def Look (env : Env) (h : Heap) (m : Str → Option Value) (x : Str) (u : Value) : Prop :=
  (env.kindOf x = some .local ∧ m x = some u) ∨ ((env.kindOf x = some .cell ∨ env.kindOf x = some .free) ∧ ∃ c, env.cells.lookup x = some c ∧ h.IsCell c (some u))

structure Cx.Ok (X : Cx) : Prop where
  mod : Mod X.K X.mg X.base
  kind : X.env.scope.kind = .function
  glob : X.env.globals = mainGlobals
  blt : X.env.builtins = builtinsNs
  above : X.s₀.heap.objs.size ≤ X.env.locals
  inj : ∀ x y c, X.env.cells.lookup x = some c → X.env.cells.lookup y = some c → x = y
  has : ∀ x, (X.env.kindOf x = some .cell ∨ X.env.kindOf x = some .free) → ∃ c, X.env.cells.lookup x = some c
  cab : ∀ x c, X.fn x = true → X.env.cells.lookup x = some c → X.s₀.heap.objs.size ≤ c
  hd : X.calm = true → X.A.handled = none
  frames : X.A.frames = some X.stack
  stk : X.stack = X.outer ∨ (X.stack = X.env :: X.outer ∧ X.env.frame = some X.env.locals)
  exf : ∀ b ∈ X.ex, b ≠ X.env.locals ∧ ∀ x c, X.env.cells.lookup x = some c → c ≠ b
  bs : ∀ b o, X.base.get? b = some o → X.s₀.heap.get? b = some o ∧ X.H₀ b = none
  bsz : X.base.objs.size ≤ X.s₀.heap.objs.size
  noex : ∀ b o, X.base.get? b = some o → b ∉ X.ex
  exfs : ∀ b ∈ X.ex, b ∉ X.fs
  funs : X.s₀.heap.FunFrames X.base X.outer
  frf : ∀ b ∈ X.fs, X.H₀ b = none

structure Inv (X : Cx) (pins : List (Addr × Obj)) (σ : List (Option V)) (H : Hp) (s : Shared) : Prop where
  ok : X.Ok
  os : s.os = X.s₀.os
  bare : AllBare s.gens
  base : Un X.fs X.ex X.H₀ H X.s₀.heap s.heap
  loc : ∃ m, s.heap.Ns X.env.locals m ∧ ∀ (i : Nat) (x : Str) (v : V), X.N[i]? = some x → σ[i]? = some (some v) → Vis X.env.scope x → ∃ u, RelV v u ∧ Look X.env s.heap m x u
  cell : ∀ x c, X.env.cells.lookup x = some c → ∃ v, s.heap.IsCell c v
  free : H X.env.locals = none
  freeC : ∀ x c, X.env.cells.lookup x = some c → H c = none
  pin : ∀ p ∈ X.pn ++ pins, s.heap.get? p.1 = some p.2 ∧ H p.1 = none ∧ p.1 ≠ X.env.locals ∧ p.1 ∉ X.fs ∧ ∀ v, p.2.data ≠ .cell v
  hok : HOk X.prog X.w H s.heap
  len : σ.length = X.N.length

section
variable {X : Cx} {pins : List (Addr × Obj)} {σ : List (Option V)} {H H' : Hp} {s : Shared} {h' : Heap}

theorem Cx.Ok.nofr (ok : X.Ok) {b : Addr} {o : Obj} (e : X.base.get? b = some o) : b ∉ X.fs := fun hb => by
  have := (ok.funs.mem hb).1
  rw [e] at this; cases this
theorem Inv.bs (I : Inv X pins σ H s) : ∀ b o, X.base.get? b = some o → s.heap.get? b = some o ∧ H b = none := fun b o e =>
  ⟨I.base.keep b o (I.ok.bs b o e).1 (I.ok.bs b o e).2 (I.ok.nofr e) (I.ok.noex b o e), I.base.free b o (I.ok.bs b o e).1 (I.ok.bs b o e).2 (I.ok.noex b o e)⟩
theorem Inv.bk (I : Inv X pins σ H s) : ∀ b o, X.base.get? b = some o → s.heap.get? b = some o := fun b o e => (I.bs b o e).1
theorem Inv.mod (I : Inv X pins σ H s) : Mod X.K X.mg X.base := I.ok.mod
theorem Inv.kIn (I : Inv X pins σ H s) : X.K.In s.heap := I.ok.mod.kin.keeps I.bk
theorem Inv.lt (I : Inv X pins σ H s) : X.env.locals < s.heap.objs.size := let ⟨_, hn, _⟩ := I.loc; hn.lt
theorem Inv.sz (I : Inv X pins σ H s) : X.s₀.heap.objs.size ≤ s.heap.objs.size := Nat.le_trans I.ok.above (Nat.le_of_lt I.lt)
theorem Inv.nofs (I : Inv X pins σ H s) {a : Addr} (h : s.heap.objs.size ≤ a) : a ∉ X.fs := fun hb => by
  obtain ⟨_, o, ho, _⟩ := I.ok.funs.mem hb
  exact absurd (Nat.lt_of_lt_of_le (Heap.lt_size ho) (Nat.le_trans I.sz h)) (Nat.lt_irrefl _)
theorem Inv.cne (I : Inv X pins σ H s) : ∀ x c, X.env.cells.lookup x = some c → c ≠ X.env.locals := fun x c e z => by
  obtain ⟨v, o, ho, hd⟩ := I.cell x c e
  obtain ⟨m, ⟨o', es, ep, ho', hd', _⟩, _⟩ := I.loc
  rw [z, ho'] at ho; cases ho; rw [hd'] at hd; cases hd
theorem Inv.funs (I : Inv X pins σ H s) : s.heap.FunFrames X.base X.outer := by
  have all : ∀ (l : List Env), (∀ b ∈ frs l, b ∈ X.fs) → X.s₀.heap.FunFrames X.base l → s.heap.FunFrames X.base l := by
    intro l
    induction l with
    | nil => intro _ _; trivial
    | cons env r ih =>
      intro hs hl
      obtain ⟨hk, ⟨L, o, hf, hn, ho, hd⟩, hr⟩ := hl
      have hL : L ∈ X.fs := hs L (by unfold frs; rw [List.filterMap_cons, hf]; exact List.mem_cons_self)
      obtain ⟨sl, e⟩ := I.base.slot L o ho (I.ok.frf L hL) hL fun z => I.ok.exfs L z hL
      exact ⟨hk, ⟨L, _, hf, hn, e, hd⟩, ih (fun b hb => hs b (by unfold frs; rw [List.filterMap_cons, hf]; exact List.mem_cons_of_mem _ hb)) hr⟩
  exact all X.outer (fun _ hb => hb) I.ok.funs

/-- the frames that run, for a call -/
theorem Inv.stack (I : Inv X pins σ H s) : s.heap.FunFrames X.base X.stack := by
  rcases I.ok.stk with e | ⟨e, hf⟩
  · rw [e]; exact I.funs
  · rw [e]
    obtain ⟨m, hn, _⟩ := I.loc
    refine .cons (by rw [I.ok.kind]; decide) hf hn ?_ I.funs
    exact Heap.get?_none_of_le (Nat.le_trans I.ok.bsz I.ok.above)
theorem Inv.stkSub (I : Inv X pins σ H s) : ∀ b ∈ frs X.stack, b ∈ X.env.locals :: X.fs := fun b hb => by
  rcases I.ok.stk with e | ⟨e, hf⟩
  · rw [e] at hb; exact List.mem_cons_of_mem _ hb
  · rw [e] at hb
    unfold frs at hb
    rw [List.filterMap_cons, hf] at hb
    exact hb
theorem Inv.stkFree (I : Inv X pins σ H s) : ∀ b ∈ frs X.stack, H b = none := fun b hb => by
  rcases List.mem_cons.mp (I.stkSub b hb) with e | hb
  · rw [e]; exact I.free
  · obtain ⟨_, o, ho, _⟩ := I.ok.funs.mem hb
    exact I.base.free b o ho (I.ok.frf b hb) fun z => I.ok.exfs b z hb

/-- THE STEP: the untracked objects but the frame and the records at ch are kept (the callers' frames up to slots), the frame's map is kept, the new abstract heap is held -/
theorem Inv.step {g' : Array GenState} {t' : Nat} {d' : Drawn} {ch : List Addr} (I : Inv X pins σ H s)
    (hch : ∀ b ∈ ch, (b ∈ X.ex ∨ X.s₀.heap.objs.size ≤ b) ∧ b ≠ X.env.locals ∧ (∀ x c, X.env.cells.lookup x = some c → c ≠ b) ∧ ∀ p ∈ X.pn ++ pins, p.1 ≠ b)
    (keep : ∀ b o, b ≠ X.env.locals → b ∉ X.fs → b ∉ ch → s.heap.get? b = some o → H b = none → h'.get? b = some o)
    (slot : ∀ b o, b ≠ X.env.locals → b ∈ X.fs → b ∉ ch → s.heap.get? b = some o → H b = none → ∃ sl, h'.get? b = some { o with slots := sl }) (free : ∀ b o, b ∉ ch → s.heap.get? b = some o → H b = none → H' b = none)
    (there : ∀ b o, b ∉ ch → s.heap.get? b = some o → ∃ o', h'.get? b = some o')
    (tups : ∀ b xs, H b = some (.tup xs) → H' b = some (.tup xs)) (frzs : ∀ b o u, H b = some (.frz o u) → H' b = some (.frz o u)) (tbls : ∀ b ps, H b = some (.tbl ps) → ∃ more, H' b = some (.tbl (ps ++ more)))
    (ns : ∀ m, s.heap.Ns X.env.locals m → h'.Ns X.env.locals m) (hok : HOk X.prog X.w H' h') (hg : AllBare g') :
    Inv X pins σ H' { s with heap := h', gens := g', drawn := d', toks := t' } := by
  have neL : ∀ b o, X.s₀.heap.get? b = some o → b ≠ X.env.locals := fun b o e => Nat.ne_of_lt (Nat.lt_of_lt_of_le (Heap.lt_size e) I.ok.above)
  have neC : ∀ b o, X.s₀.heap.get? b = some o → b ∉ X.ex → b ∉ ch := fun b o e hx hb => by
    rcases (hch b hb).1 with z | z
    · exact hx z
    · exact absurd (Nat.lt_of_lt_of_le (Heap.lt_size e) z) (Nat.lt_irrefl _)
  have cellK : ∀ x c, X.env.cells.lookup x = some c → ∀ v, s.heap.IsCell c v → h'.IsCell c v := fun x c e v ⟨o, ho, hd⟩ => by
    have nch : c ∉ ch := fun z => (hch c z).2.2.1 x c e rfl
    by_cases hc : c ∈ X.fs
    · obtain ⟨sl, q⟩ := slot c o (I.cne x c e) hc nch ho (I.freeC x c e)
      exact ⟨_, q, hd⟩
    · exact ⟨o, keep c o (I.cne x c e) hc nch ho (I.freeC x c e), hd⟩
  refine ⟨I.ok, I.os, hg, ⟨fun b o e n hb hx => ?_, fun b o e n hb hx => ?_, fun b o e n hx => ?_, fun b o e hx => ?_, fun b xs e => tups b xs (I.base.tups b xs e), fun b o xs e => frzs b o xs (I.base.frzs b o xs e), fun b ps e => ?_⟩, ?_, fun x c e => ?_, ?_, fun x c e => ?_, fun p hp => ?_, hok, I.len⟩
  · exact keep b o (neL b o e) hb (neC b o e hx) (I.base.keep b o e n hb hx) (I.base.free b o e n hx)
  · obtain ⟨sl, e1⟩ := I.base.slot b o e n hb hx
    obtain ⟨sl', e2⟩ := slot b _ (neL b o e) hb (neC b o e hx) e1 (I.base.free b o e n hx)
    exact ⟨sl', e2⟩
  · obtain ⟨o', e1⟩ := I.base.there b o e hx
    exact free b o' (neC b o e hx) e1 (I.base.free b o e n hx)
  · obtain ⟨o', e1⟩ := I.base.there b o e hx
    exact there b o' (neC b o e hx) e1
  · obtain ⟨m1, e1⟩ := I.base.tbls b ps e
    obtain ⟨m2, e2⟩ := tbls b _ e1
    exact ⟨m1 ++ m2, by rw [e2, Array.append_assoc]⟩
  · obtain ⟨m, hn, hl⟩ := I.loc
    refine ⟨m, ns m hn, fun i x v e1 e2 e3 => ?_⟩
    obtain ⟨u, r, l⟩ := hl i x v e1 e2 e3
    refine ⟨u, r, ?_⟩
    rcases l with l | ⟨k, c, e, z⟩
    · exact .inl l
    · exact .inr ⟨k, c, e, cellK x c e _ z⟩
  · obtain ⟨v, z⟩ := I.cell x c e
    exact ⟨v, cellK x c e v z⟩
  · obtain ⟨m, ⟨o, _, _, ho, _⟩, _⟩ := I.loc
    exact free _ o (fun z => (hch _ z).2.1 rfl) ho I.free
  · obtain ⟨v, o, ho, hd⟩ := I.cell x c e
    exact free c o (fun z => (hch c z).2.2.1 x c e rfl) ho (I.freeC x c e)
  · obtain ⟨e, n, ne, nf, d⟩ := I.pin p hp
    have nch : p.1 ∉ ch := fun z => (hch p.1 z).2.2.2 p hp rfl
    exact ⟨keep p.1 p.2 ne nf nch e n, free p.1 p.2 nch e n, ne, nf, d⟩
/-- .. where the frame's own object is kept too -/
theorem Inv.un {t' : Nat} (I : Inv X pins σ H s) (u : Un X.fs [] H H' s.heap h') (hok : HOk X.prog X.w H' h') : Inv X pins σ H' { s with heap := h', toks := t' } := by
  obtain ⟨m, ⟨o, es, ep, ho, r⟩, _⟩ := id I.loc
  obtain ⟨sl, hL⟩ := u.any ho I.free (by simp)
  exact I.step (g' := s.gens) (d' := s.drawn) (ch := []) (fun _ z => nomatch z) (fun b o _ hb _ e n => u.keep b o e n hb (by simp)) (fun b o _ hb _ e n => u.slot b o e n hb (by simp)) (fun b o _ e n => u.free b o e n (by simp)) (fun b o _ e => u.there b o e (by simp)) u.tups u.frzs u.tbls (fun m' hm => by
    obtain ⟨o', es', ep', ho', r'⟩ := hm
    rw [ho] at ho'; cases ho'
    exact ⟨_, es', ep', hL, r'⟩) hok I.bare
/-- behind a call (or a comprehension's block): the slots of this frame may have changed too, the records at ch may have turned -/
theorem Inv.call {g' : Array GenState} {t' : Nat} {d' : Drawn} {ch : List Addr} (I : Inv X pins σ H s) (u : Un (frs X.stack) ch H H' s.heap h') (hok : HOk X.prog X.w H' h') (hg : AllBare g')
    (hch : ∀ b ∈ ch, (b ∈ X.ex ∨ X.s₀.heap.objs.size ≤ b) ∧ b ≠ X.env.locals ∧ (∀ x c, X.env.cells.lookup x = some c → c ≠ b) ∧ ∀ p ∈ X.pn ++ pins, p.1 ≠ b) :
    Inv X pins σ H' { s with heap := h', gens := g', drawn := d', toks := t' } := by
  obtain ⟨m, ⟨o, es, ep, ho, r⟩, _⟩ := id I.loc
  obtain ⟨sl, hL⟩ := u.any ho I.free fun z => (hch _ z).2.1 rfl
  exact I.step (ch := ch) hch (fun b o hL hb hc e n => u.keep b o e n (fun z => (List.mem_cons.mp (I.stkSub b z)).elim hL hb) hc) (fun b o _ _ hc e n => u.any e n hc) (fun b o hc e n => u.free b o e n hc) (fun b o hc e => u.there b o e hc) u.tups u.frzs u.tbls (fun m' hm => by
    obtain ⟨o', es', ep', ho', r'⟩ := hm
    rw [ho] at ho'; cases ho'
    exact ⟨_, es', ep', hL, r'⟩) hok hg
/-- an untracked record of ours (an iterator) has turned -/
theorem Inv.turned {t' : Nat} {it : Addr} (I : Inv X pins σ H s) (k : ∀ b o, b ≠ it → s.heap.get? b = some o → h'.get? b = some o) (hn : H it = none) (hL : it ≠ X.env.locals)
    (h1 : it ∈ X.ex ∨ X.s₀.heap.objs.size ≤ it) (h2 : ∀ x c, X.env.cells.lookup x = some c → c ≠ it) (h3 : ∀ p ∈ X.pn ++ pins, p.1 ≠ it) : Inv X pins σ H { s with heap := h', toks := t' } := by
  have nit : ∀ b u, H b = some u → b ≠ it := fun b u e z => by rw [z, hn] at e; cases e
  refine I.step (g' := s.gens) (d' := s.drawn) (ch := [it]) (fun b hb => ?_) (fun b o _ _ hc e _ => k b o (fun z => hc (by simp [z])) e) (fun b o _ _ hc e _ => ⟨o.slots, k b o (fun z => hc (by simp [z])) e⟩) (fun _ _ _ _ n => n)
    (fun b o hc e => ⟨o, k b o (fun z => hc (by simp [z])) e⟩) (fun _ _ e => e) (fun _ _ _ e => e) (fun b ps e => ⟨#[], by rw [e]; simp⟩) (fun m hm => ?_) (fun b u e => ?_) I.bare
  · have e : b = it := by simpa using hb
    subst e
    exact ⟨h1, hL, h2, h3⟩
  · obtain ⟨o, es, ep, ho, r⟩ := hm
    exact ⟨o, es, ep, k _ o (Ne.symm hL) ho, r⟩
  · refine (I.hok b u e).stay (fun c v hc q => k c v ?_ q) (fun _ q => q) fun _ _ q => q
    rcases hc with z | z
    · rw [z]; exact nit b u e
    · exact nit c _ z
theorem Inv.tok (I : Inv X pins σ H s) (t : Nat) : Inv X pins σ H { s with toks := t } := I.un (h' := s.heap) (t' := t) Un.refl I.hok
/-- all objects kept -/
theorem Inv.kept {t' : Nat} (I : Inv X pins σ H s) (k : ∀ b u, s.heap.get? b = some u → h'.get? b = some u) : Inv X pins σ H { s with heap := h', toks := t' } := I.un (Un.kept k) (I.hok.kept k)
/-- a new object laid and tracked -/
theorem Inv.laid {a : Addr} {o : HO} {t' : Nat} (I : Inv X pins σ H s) (k : ∀ b u, s.heap.get? b = some u → h'.get? b = some u) (hp : s.heap.objs.size ≤ a) (new : ObjOk X.prog X.w (upd H a o) h' a o) :
    Inv X pins σ (upd H a o) { s with heap := h', toks := t' } := I.un (Un.laid k hp (I.hok.fresh hp)) (I.hok.laid k hp new)
/-- an object written -/
theorem Inv.write {x e : Addr} {o : HO} {t' : Nat} (I : Inv X pins σ H s) (mu : Mut (H x)) (he : e = x ∨ H e = some (.own x)) (k : ∀ b u, b ≠ e → s.heap.get? b = some u → h'.get? b = some u) (heo : ∃ u, h'.get? e = some u)
    (new : ObjOk X.prog X.w (upd H x o) h' x o) : Inv X pins σ (upd H x o) { s with heap := h', toks := t' } := I.un (Un.write mu he k heo) (I.hok.write mu he k heo new)
theorem Inv.pins_of {pins' : List (Addr × Obj)} (I : Inv X pins σ H s) (h : ∀ p ∈ pins', s.heap.get? p.1 = some p.2 ∧ H p.1 = none ∧ p.1 ≠ X.env.locals ∧ p.1 ∉ X.fs ∧ ∀ v, p.2.data ≠ .cell v) : Inv X pins' σ H s :=
  ⟨I.ok, I.os, I.bare, I.base, I.loc, I.cell, I.free, I.freeC, fun p hp => (List.mem_append.mp hp).elim (fun z => I.pin p (List.mem_append_left _ z)) (h p), I.hok, I.len⟩

theorem nodup_ix {N : List Str} (hN : N.Nodup) {i j : Nat} {x : Str} (a : N[i]? = some x) (b : N[j]? = some x) : i = j := by
  obtain ⟨h1, e1⟩ := List.getElem?_eq_some_iff.mp a
  obtain ⟨h2, e2⟩ := List.getElem?_eq_some_iff.mp b
  exact (List.getElem_inj hN).mp (e1.trans e2.symm)

/-- a name is stored; what changed -/
theorem store_ok2 {M : Model} {A : Around} {E : Value → Shared → Prop} {i : Nat} {x : Str} {v : V} {u : Value} {Q : Unit → Shared → Prop} (I : Inv X pins σ H s) (hN : X.N.Nodup) (hi : X.N[i]? = some x) (hx : Loc X.env.scope x) (r : RelV v u)
    (h : ∀ s', Inv X pins (σ.set i (some v)) H s' → (∃ a, Heap.SameBut a s.heap s'.heap ∧ (a = X.env.locals ∨ X.env.cells.lookup x = some a)) → Q () s') (hf : X.fn x = true ∨ X.env.scope.names.lookup x = some .local := by first | exact .inl rfl | exact .inr rfl | assumption) : wpAny M A (storeName X.env x u) Q E s := by
  obtain ⟨m, hn, hl⟩ := id I.loc
  have hcls : (X.env.scope.kind == .class || (X.env.scope.kind == .module && X.env.locals != X.env.globals)) = false := by rw [I.ok.kind]; rfl
  have hiσ : i < σ.length := by rw [I.len]; exact (List.getElem?_eq_some_iff.mp hi).1
  have cne := I.cne
  have tracked : ∀ {a : Addr} {h' : Heap}, (∃ o, s.heap.get? a = some o ∧ H a = none) → Heap.SameBut a s.heap h' → HOk X.prog X.w H h' := fun {a h'} ha hs b ob e => by
    obtain ⟨_, _, hfree⟩ := ha
    refine (I.hok b ob e).stay (fun c w' hc q => (hs.2 c ?_).trans q) (fun _ q => q) fun _ _ q => q
    rintro rfl
    rcases hc with rfl | hc
    · rw [hfree] at e; cases e
    · rw [hfree] at hc; cases hc
  rcases hx with hk | hk
  · refine wpAny_storeName_local hk hn (fun h' hn' hs => ?_) hcls
    obtain ⟨oL, _, _, hoL, _⟩ := id hn
    refine h _ ⟨I.ok, I.os, I.bare, ⟨fun b o e n hb hx => ?_, fun b o e n hb hx => ?_, I.base.free, fun b o e hx => ?_, I.base.tups, I.base.frzs, I.base.tbls⟩, ⟨_, hn', fun j y v' e1 e2 e3 => ?_⟩, fun y c e => ?_, I.free, I.freeC, fun p hp => ?_, tracked ⟨oL, hoL, I.free⟩ hs, by simpa using I.len⟩ ⟨_, hs, .inl rfl⟩
    · exact (hs.2 b (Nat.ne_of_lt (Nat.lt_of_lt_of_le (Heap.lt_size e) I.ok.above))).trans (I.base.keep b o e n hb hx)
    · obtain ⟨sl, e1⟩ := I.base.slot b o e n hb hx
      exact ⟨sl, (hs.2 b (Nat.ne_of_lt (Nat.lt_of_lt_of_le (Heap.lt_size e) I.ok.above))).trans e1⟩
    · obtain ⟨o', e1⟩ := I.base.there b o e hx
      exact ⟨o', (hs.2 b (Nat.ne_of_lt (Nat.lt_of_lt_of_le (Heap.lt_size e) I.ok.above))).trans e1⟩
    · by_cases hj : j = i
      · subst hj
        rw [hi] at e1; cases e1
        rw [List.getElem?_set_self hiσ] at e2
        cases e2
        exact ⟨u, r, .inl ⟨hk, by simp⟩⟩
      · rw [List.getElem?_set_ne (Ne.symm hj)] at e2
        obtain ⟨u', r', q⟩ := hl j y v' e1 e2 e3
        refine ⟨u', r', ?_⟩
        rcases q with ⟨k, e⟩ | ⟨k, c, e, z⟩
        · refine .inl ⟨k, ?_⟩
          have : y ≠ x := fun e => hj (nodup_ix hN e1 (e ▸ hi))
          simp [this, e]
        · exact .inr ⟨k, c, e, z.sameBut hs (cne y c e)⟩
    · obtain ⟨w', z⟩ := I.cell y c e
      exact ⟨w', z.sameBut hs (cne y c e)⟩
    · obtain ⟨e, n, ne, nf, d⟩ := I.pin p hp
      exact ⟨(hs.2 p.1 ne).trans e, n, ne, nf, d⟩
  · have hfn : X.fn x = true := by
      rcases hf with z | z
      · exact z
      · rw [z] at hk; cases hk
    obtain ⟨c, hc⟩ := I.ok.has x (.inl hk)
    obtain ⟨w', z⟩ := I.cell x c hc
    refine wpAny_storeName_cell I.ok.kind hk hc z (fun h' hc' hs => ?_)
    obtain ⟨oc, hoc, hocd⟩ := id z
    refine h { s with heap := h' } ⟨I.ok, I.os, I.bare, ⟨fun b o e n hb hx => ?_, fun b o e n hb hx => ?_, I.base.free, fun b o e hx => ?_, I.base.tups, I.base.frzs, I.base.tbls⟩, ⟨m, hn.sameBut hs (Ne.symm (cne x c hc)), fun j y v' e1 e2 e3 => ?_⟩, fun y c' e => ?_, I.free, I.freeC, fun p hp => ?_, tracked ⟨oc, hoc, I.freeC x c hc⟩ hs, by simpa using I.len⟩ ⟨c, hs, .inr hc⟩
    · exact (hs.2 b (Nat.ne_of_lt (Nat.lt_of_lt_of_le (Heap.lt_size e) (I.ok.cab x c hfn hc)))).trans (I.base.keep b o e n hb hx)
    · obtain ⟨sl, e1⟩ := I.base.slot b o e n hb hx
      exact ⟨sl, (hs.2 b (Nat.ne_of_lt (Nat.lt_of_lt_of_le (Heap.lt_size e) (I.ok.cab x c hfn hc)))).trans e1⟩
    · obtain ⟨o', e1⟩ := I.base.there b o e hx
      exact ⟨o', (hs.2 b (Nat.ne_of_lt (Nat.lt_of_lt_of_le (Heap.lt_size e) (I.ok.cab x c hfn hc)))).trans e1⟩
    · by_cases hj : j = i
      · subst hj
        rw [hi] at e1; cases e1
        rw [List.getElem?_set_self hiσ] at e2
        cases e2
        exact ⟨u, r, .inr ⟨.inl hk, c, hc, hc'⟩⟩
      · rw [List.getElem?_set_ne (Ne.symm hj)] at e2
        obtain ⟨u', r', q⟩ := hl j y v' e1 e2 e3
        refine ⟨u', r', ?_⟩
        rcases q with q | ⟨k, c', e, z'⟩
        · exact .inl q
        · refine .inr ⟨k, c', e, z'.sameBut hs ?_⟩
          rintro rfl
          exact hj (nodup_ix hN e1 (I.ok.inj _ _ _ e hc ▸ hi))
    · by_cases hcc : c' = c
      · subst hcc; exact ⟨_, hc'⟩
      · obtain ⟨w2, z2⟩ := I.cell y c' e
        exact ⟨w2, z2.sameBut hs hcc⟩
    · obtain ⟨e, n, ne, nf, d⟩ := I.pin p hp
      refine ⟨(hs.2 p.1 ?_).trans e, n, ne, nf, d⟩
      intro q
      rw [q, hoc] at e
      have q' : oc = p.2 := Option.some.inj e
      exact d w' (by rw [← q']; exact hocd)
theorem store_ok {M : Model} {A : Around} {E : Value → Shared → Prop} {i : Nat} {x : Str} {v : V} {u : Value} {Q : Unit → Shared → Prop} (I : Inv X pins σ H s) (hN : X.N.Nodup) (hi : X.N[i]? = some x) (hx : Loc X.env.scope x) (r : RelV v u)
    (h : ∀ s', Inv X pins (σ.set i (some v)) H s' → Q () s') (hf : X.fn x = true ∨ X.env.scope.names.lookup x = some .local := by first | exact .inl rfl | exact .inr rfl | assumption) : wpAny M A (storeName X.env x u) Q E s :=
  store_ok2 I hN hi hx r (fun s' I' _ => h s' I') hf
/-- behind a call or a block, the state as it is -/
theorem Inv.call' {s' : Shared} {ch : List Addr} (I : Inv X pins σ H s) (ho : s'.os = s.os) (u : Un (frs X.stack) ch H H' s.heap s'.heap) (hok : HOk X.prog X.w H' s'.heap) (hg : AllBare s'.gens)
    (hch : ∀ b ∈ ch, (b ∈ X.ex ∨ X.s₀.heap.objs.size ≤ b) ∧ b ≠ X.env.locals ∧ (∀ x c, X.env.cells.lookup x = some c → c ≠ b) ∧ ∀ p ∈ X.pn ++ pins, p.1 ≠ b) : Inv X pins σ H' s' := by
  obtain ⟨h', g', d', t', o'⟩ := s'
  have e : o' = s.os := ho
  subst e
  exact I.call (g' := g') (t' := t') (d' := d') u hok hg hch
end

/-! ### the judgements -/
/-- an exception: its class, its own dict's address (where it has one), the abstract heap behind it -/
abbrev XK := Value → Option Addr → Hp → Prop
abbrev St := List (Option V)
abbrev VK := V → Hp → Prop
/-- an expression's reading; a test's; an argument list's -/
abbrev TE := St → Hp → VK → Prop
abbrev TT := St → Hp → (Bool → Hp → Prop) → Prop
abbrev TA := St → Hp → (List V → Hp → Prop) → Prop
/-- what is wanted behind a statement -/
structure Ends where
  nx : St → Hp → Prop
  rt : VK
  bk : St → Hp → Prop := fun _ _ => False
  ct : St → Hp → Prop := fun _ _ => False
abbrev TS := Ends → St → Hp → Prop

def EP (X : Cx) (pins : List (Addr × Obj)) (σ : St) (Q : VK) (u : Value) (s' : Shared) : Prop := ∃ v H', Inv X pins σ H' s' ∧ RelV v u ∧ Q v H'
def TP (X : Cx) (pins : List (Addr × Obj)) (σ : St) (Q : Bool → Hp → Prop) (b : Bool) (s' : Shared) : Prop := ∃ H', Inv X pins σ H' s' ∧ Q b H'
def AP (X : Cx) (pins : List (Addr × Obj)) (σ : St) (Q : List V → Hp → Prop) (us : List Value) (s' : Shared) : Prop := ∃ vs H', Inv X pins σ H' s' ∧ Vals vs us ∧ Q vs H'
def SP (X : Cx) (pins : List (Addr × Obj)) (D : Ends) (f : Flow) (s' : Shared) : Prop :=
  match f with
  | .next => ∃ σ' H', Inv X pins σ' H' s' ∧ D.nx σ' H'
  | .brk => ∃ σ' H', Inv X pins σ' H' s' ∧ D.bk σ' H'
  | .cont => ∃ σ' H', Inv X pins σ' H' s' ∧ D.ct σ' H'
  | .ret u => ∃ v σ' H', Inv X pins σ' H' s' ∧ RelV v u ∧ D.rt v H'

def PE (X : Cx) (e : Expr) (t : TE) : Prop :=
  ∀ (pins : List (Addr × Obj)) (s : Shared) (σ : St) (H : Hp) (Q : VK), Inv X pins σ H s → t σ H Q → wpAny (model X.prog X.w) X.A (eval e X.env) (EP X pins σ Q) X.xe s
def PT (X : Cx) (e : Expr) (t : TT) : Prop :=
  ∀ (pins : List (Addr × Obj)) (s : Shared) (σ : St) (H : Hp) (Q : Bool → Hp → Prop), Inv X pins σ H s → t σ H Q → wpAny (model X.prog X.w) X.A (isTrue e X.env (eval e X.env)) (TP X pins σ Q) X.xe s
/-- a test whatever its 'whole' is (and, or) -/
def PW (X : Cx) (e : Expr) (t : TT) : Prop :=
  ∀ (whole : Sem Value) (pins : List (Addr × Obj)) (s : Shared) (σ : St) (H : Hp) (Q : Bool → Hp → Prop), Inv X pins σ H s → t σ H Q → wpAny (model X.prog X.w) X.A (isTrue e X.env whole) (TP X pins σ Q) X.xe s
theorem PW.pt {X : Cx} {e : Expr} {t : TT} (h : PW X e t) : PT X e t := h _
/-- an argument list (no star), from the left -/
def PA (X : Cx) (es : List Expr) (t : TA) : Prop :=
  ∀ (pos : Pos) (pins : List (Addr × Obj)) (s : Shared) (σ : St) (H : Hp) (Q : List V → Hp → Prop), Inv X pins σ H s → t σ H Q → wpAny (model X.prog X.w) X.A (spliced (backTo pos (starEach es X.env))) (AP X pins σ Q) X.xe s
def PS (X : Cx) (st : Stmt) (t : TS) : Prop :=
  ∀ (pins : List (Addr × Obj)) (s : Shared) (σ : St) (H : Hp) (D : Ends), Inv X pins σ H s → t D σ H → wpAny (model X.prog X.w) X.A (exec st X.env) (SP X pins D) X.xe s
def PSs (X : Cx) (st : List Stmt) (t : TS) : Prop :=
  ∀ (pins : List (Addr × Obj)) (s : Shared) (σ : St) (H : Hp) (D : Ends), Inv X pins σ H s → t D σ H → wpAny (model X.prog X.w) X.A (execs st X.env) (SP X pins D) X.xe s
/-- weaken the end -/
theorem thn {α : Type} {t : Sem α} {Q Q' : α → Shared → Prop} {M : Model} {A : Around} {E : Value → Shared → Prop} {s : Shared} (h : wpAny M A t Q E s) (hQ : ∀ a s, Q a s → Q' a s) : wpAny M A t Q' E s := wpAny_mono h hQ fun _ _ x => x
end L2

namespace L2
open PySem PySem.Spec PyProof.Rows
section
variable {X : Cx}

/-- two expressions in a row -/
theorem bin {a b : Expr} {ta tb : TE} (ha : PE X a ta) (hb : PE X b tb) {pins : List (Addr × Obj)} {s : Shared} {σ : St} {H : Hp} {R : V → V → Hp → Prop} (I : Inv X pins σ H s) (h : ta σ H fun x H1 => tb σ H1 fun y H2 => R x y H2)
    {α : Type} {Q : α → Shared → Prop} {f : Value → Value → Sem α}
    (hf : ∀ v u s2 x y H2, Inv X pins σ H2 s2 → RelV x v → RelV y u → R x y H2 → wpAny (model X.prog X.w) X.A (f v u) Q X.xe s2) :
    wpAny (model X.prog X.w) X.A (eval a X.env) (fun v s₁ => wpAny (model X.prog X.w) X.A (eval b X.env) (fun u s₂ => wpAny (model X.prog X.w) X.A (f v u) Q X.xe s₂) X.xe s₁) X.xe s := by
  refine thn (ha pins s σ H _ I h) fun v s1 ⟨x, H1, I1, r1, q1⟩ => ?_
  refine thn (hb pins s1 σ H1 _ I1 q1) fun u s2 ⟨y, H2, I2, r2, q2⟩ => ?_
  exact hf v u s2 x y H2 I2 r1 r2 q2

/-! ### names and constants -/
def tVar (i : Nat) : TE := fun σ H Q => ∃ v, σ[i]? = some (some v) ∧ Q v H
def tC (v : V) : TE := fun _ H Q => Q v H
theorem pe_var {i : Nat} {x : Str} {pos : Pos} (hN : X.N[i]? = some x) (hv : Vis X.env.scope x) (hd : (x == ("__debug__" : Str)) = false := by decide) (hcd : (x == ("__classdict__" : Str)) = false := by decide) : PE X (.Name x pos) (tVar i) := by
  intro pins s σ H Q I h
  obtain ⟨v, e, h⟩ := h
  obtain ⟨m, hn, hl⟩ := I.loc
  obtain ⟨u, r, l⟩ := hl i x v hN e hv
  have fin : EP X pins σ Q u s := ⟨v, H, I, r, h⟩
  rcases l with ⟨hk, hm⟩ | ⟨hk, c, hc, hcell⟩
  · exact wpAny_Name (wpAny_loadName_local I.ok.kind hk hn hm fin) hd
  · rcases hk with hk | hk
    · exact wpAny_Name (wpAny_loadName_cell I.ok.kind hk hc hcell fin) hd
    · exact wpAny_Name (wpAny_loadName_free I.ok.kind hk hc hcell fin hcd) hd
theorem pe_int {i j pos} : PE X (.Constant (.int i) j pos) (tC (.int i)) := fun _ _ _ H _ I h => wpAny_Constant_int ⟨.int i, H, I.tok _, ⟨_, rfl⟩, h⟩
theorem pe_bl {b j pos} : PE X (.Constant (.bool b) j pos) (tC (.bl b)) := fun _ _ _ H _ I h => Constant_bool ⟨.bl b, H, I, rfl, h⟩
theorem pe_non {j pos} : PE X (.Constant .none j pos) (tC .non) := fun _ _ _ H _ I h => Constant_none ⟨.non, H, I, rfl, h⟩
theorem pe_str {x j pos} : PE X (.Constant (.str x) j pos) (tC (.str x)) := fun _ _ _ H _ I h => Calls.Constant_str ⟨.str x, H, I.tok _, ⟨_, rfl⟩, h⟩

/-- a global name of the def -/
def Gl (X : Cx) (x : Str) : Prop := X.env.kindOf x = some .globalImplicit
theorem ld_glob {E : Value → Shared → Prop} {pins : List (Addr × Obj)} {s : Shared} {σ : St} {H : Hp} {x : Str} {u : Value} {pos : Pos} {Q : Value → Shared → Prop} (I : Inv X pins σ H s) (hg : Gl X x) (hm : X.mg x = some u) (h : Q u s)
    (hd : (x == ("__debug__" : Str)) = false := by decide) : wpAny (model X.prog X.w) X.A (eval (.Name x pos) X.env) Q E s :=
  Calls.Name_function_global I.ok.kind hg (Calls.loadGlobal_global (by rw [I.ok.glob]; exact I.mod.glob.keeps I.bk) hm h) hd
theorem ld_blt {E : Value → Shared → Prop} {pins : List (Addr × Obj)} {s : Shared} {σ : St} {H : Hp} {x : Str} {u : Value} {pos : Pos} {Q : Value → Shared → Prop} (I : Inv X pins σ H s) (hg : Gl X x) (hm : X.mg x = none) (hv : bootBuiltins x = some u) (h : Q u s)
    (hn : x ≠ "__name__" := by decide) (hd : (x == ("__debug__" : Str)) = false := by decide) : wpAny (model X.prog X.w) X.A (eval (.Name x pos) X.env) Q E s := by
  obtain ⟨mb, h1, h2⟩ := I.mod.blt
  exact Calls.Name_function_global I.ok.kind hg (Calls.loadGlobal_builtin (by rw [I.ok.glob]; exact I.mod.glob.keeps I.bk) hm (by rw [I.ok.blt]; exact h1.keeps I.bk) ((h2 x hn).trans hv) h) hd
/-- a module's constant, a class, a function, as a value -/
theorem pe_glob {x : Str} {v : V} {u : Value} {pos : Pos} (hg : Gl X x) (hm : X.mg x = some u) (r : RelV v u) (hd : (x == ("__debug__" : Str)) = false := by decide) : PE X (.Name x pos) (tC v) :=
  fun _ _ _ H _ I h => ld_glob I hg hm ⟨v, H, I, r, h⟩ hd
theorem pe_bltn {x : Str} {v : V} {u : Value} {pos : Pos} (hg : Gl X x) (hm : X.mg x = none) (hv : bootBuiltins x = some u) (r : RelV v u) (hn : x ≠ "__name__" := by decide) (hd : (x == ("__debug__" : Str)) = false := by decide) : PE X (.Name x pos) (tC v) :=
  fun _ _ _ H _ I h => ld_blt I hg hm hv ⟨v, H, I, r, h⟩ hn hd

/-! ### arithmetic -/
variable {a b : Expr} {ta tb : TE} {pos : Pos}
/-! ### comparisons -/
/-! ### and, or, not -/
variable {tA tB' : TT} {rest : List Expr}
def tAnd (t u : TT) : TT := fun σ H Q => t σ H fun c H1 => if c = true then u σ H1 Q else Q false H1
def tOr (t u : TT) : TT := fun σ H Q => t σ H fun c H1 => if c = true then Q true H1 else u σ H1 Q
def tNot (t : TT) : TT := fun σ H Q => t σ H fun c H1 => Q (!c) H1
theorem pw_and1 (ha : PT X a tA) : PW X (.BoolOp .And [a] pos) tA := by
  intro wh pins s σ H Q I h
  refine isTrue_and (thn (ha pins s σ H Q I h) fun c s1 e => ?_)
  cases c with
  | true => exact isTrue_and_nil e
  | false => exact e
theorem pw_or1 (ha : PT X a tA) : PW X (.BoolOp .Or [a] pos) tA := by
  intro wh pins s σ H Q I h
  refine isTrue_or (thn (ha pins s σ H Q I h) fun c s1 e => ?_)
  cases c with
  | false => exact isTrue_or_nil e
  | true => exact e
theorem pw_and (ha : PT X a tA) (hb : PW X (.BoolOp .And (b :: rest) pos) tB') : PW X (.BoolOp .And (a :: b :: rest) pos) (tAnd tA tB') := by
  intro wh pins s σ H Q I h
  refine isTrue_and (thn (ha pins s σ H _ I h) fun c s1 ⟨H1, I1, q1⟩ => ?_)
  cases c with
  | true => exact hb wh pins s1 σ H1 Q I1 q1
  | false => exact ⟨H1, I1, q1⟩
theorem pw_or (ha : PT X a tA) (hb : PW X (.BoolOp .Or (b :: rest) pos) tB') : PW X (.BoolOp .Or (a :: b :: rest) pos) (tOr tA tB') := by
  intro wh pins s σ H Q I h
  refine isTrue_or (thn (ha pins s σ H _ I h) fun c s1 ⟨H1, I1, q1⟩ => ?_)
  cases c with
  | true => exact ⟨H1, I1, q1⟩
  | false => exact hb wh pins s1 σ H1 Q I1 q1
theorem pt_not (ha : PT X a tA) : PT X (.UnaryOp .Not a pos) (tNot tA) := by
  intro pins s σ H Q I h
  exact isTrue_not (ha pins s σ H (fun c H1 => Q (!c) H1) I h)
theorem pe_one {op} {t : TE} (h : PE X a t) : PE X (.BoolOp op [a] pos) t := fun pins s σ H Q I hw => BoolOp_one (h pins s σ H Q I hw)
/-- a if t else b -/
def tIf (t : TT) (ta tb : TE) : TE := fun σ H Q => t σ H fun c H1 => if c = true then ta σ H1 Q else tb σ H1 Q
theorem pe_ifExp {c : Expr} (hc : PT X c tA) (ha : PE X a ta) (hb : PE X b tb) : PE X (.IfExp c a b pos) (tIf tA ta tb) := by
  intro pins s σ H Q I h
  refine wpAny_IfExp (thn (hc pins s σ H _ I h) fun d s1 ⟨H1, I1, q1⟩ => ?_)
  cases d with
  | true => exact ha pins s1 σ H1 Q I1 q1
  | false => exact hb pins s1 σ H1 Q I1 q1
end
end L2

namespace L2
open PySem PySem.Spec PyProof.Rows

/-! ### a list, a tuple that is read: tracked, frozen, or an object of the module -/
def SqL (K : PySem.W.Frag) (H : Hp) (a : Addr) (xs : List V) : Prop :=
  Rd H a (.lst xs) ∨
    ∃ (o : Obj) (its : Array Value) (n : Nat), K.lookup a = some o ∧ o.cls = .type "list" ∧ o.dict = none ∧ o.data = .seq its n ∧ its.size ≤ sizeLine ∧ Vals xs its.toList
def SqT (K : PySem.W.Frag) (H : Hp) (a : Addr) (xs : List V) : Prop :=
  Rd H a (.tup xs) ∨
    ∃ (o : Obj) (its : Array Value) (n : Nat), K.lookup a = some o ∧ o.cls = .type "tuple" ∧ o.data = .seq its n ∧ its.size ≤ sizeLine ∧ Vals xs its.toList
def absV : Value → Option V
  | .none => some .non
  | .bool b => some (.bl b)
  | .int i _ => some (.int i)
  | .str x _ => some (.str x)
  | .bytes b _ => some (.byt b)
  | .float b _ => some (.flt b)
  | .ref a => some (.ref a)
  | .type n => some (.ty n)
  | _ => none
theorem RelV.abs {x : V} {u : Value} (r : RelV x u) : absV u = some x := by
  cases x with
  | non => cases r; rfl
  | bl _ => cases r; rfl
  | int _ => obtain ⟨t, rfl⟩ := r; rfl
  | str _ => obtain ⟨t, rfl⟩ := r; rfl
  | byt _ => obtain ⟨t, rfl⟩ := r; rfl
  | flt _ => obtain ⟨t, rfl⟩ := r; rfl
  | ref _ => cases r; rfl
  | ty _ => cases r; rfl
theorem RelV.inj {x y : V} {u : Value} (r : RelV x u) (q : RelV y u) : x = y := Option.some.inj (r.abs.symm.trans q.abs)
theorem Vals.inj : ∀ {xs ys : List V} {us : List Value}, Vals xs us → Vals ys us → xs = ys
  | _, _, _, .nil, .nil => rfl
  | _, _, _, .cons r t, .cons r' t' => by rw [r.inj r', Vals.inj t t']
section
variable {X : Cx} {pins : List (Addr × Obj)} {σ : St} {H : Hp} {s : Shared} {a : Addr} {xs ys : List V}
theorem SqL.of {K : PySem.W.Frag} (h : H a = some (.lst xs)) : SqL K H a xs := .inl (.inl h)
theorem SqT.of {K : PySem.W.Frag} (h : H a = some (.tup xs)) : SqT K H a xs := .inl (.inl h)
theorem Inv.list (I : Inv X pins σ H s) (h : SqL X.K H a xs) : ∃ its : List Value, Vals xs its ∧ PlainL s.heap a its.toArray ∧ xs.length ≤ sizeLine := by
  rcases h with h | ⟨o, its, n, hk, hc, hd, hs, hz, r⟩
  · obtain ⟨z, its, n, r, e⟩ := h.ok I.hok
    exact ⟨its, r, ⟨_, n, e, rfl, rfl, rfl⟩, z⟩
  · refine ⟨its.toList, r, ⟨o, n, I.kIn a o hk, hc, hd, by simpa using hs⟩, ?_⟩
    have e := r.length
    simp only [Array.length_toList] at e
    omega
theorem Inv.tuple (I : Inv X pins σ H s) (h : SqT X.K H a xs) : ∃ its : List Value, Vals xs its ∧ IsTup s.heap a its.toArray ∧ xs.length ≤ sizeLine := by
  rcases h with h | ⟨o, its, n, hk, hc, hs, hz, r⟩
  · obtain ⟨z, its, r, p⟩ := h.ok I.hok
    exact ⟨its, r, p, z⟩
  · refine ⟨its.toList, r, ⟨o, I.kIn a o hk, hc, n, by simpa using hs⟩, ?_⟩
    have e := r.length
    simp only [Array.length_toList] at e
    omega
theorem Inv.list_inj (I : Inv X pins σ H s) (h : SqL X.K H a xs) (h' : SqL X.K H a ys) : xs = ys := by
  obtain ⟨its, r, ⟨o, n, e, _, _, d⟩, _⟩ := I.list h
  obtain ⟨its', r', ⟨o', n', e', _, _, d'⟩, _⟩ := I.list h'
  rw [e] at e'; cases e'
  rw [d] at d'
  injection d' with d1 _
  have : its = its' := by simpa using congrArg Array.toList d1
  subst this
  exact r.inj r'
theorem Inv.tuple_inj (I : Inv X pins σ H s) (h : SqT X.K H a xs) (h' : SqT X.K H a ys) : xs = ys := by
  obtain ⟨its, r, ⟨o, e, _, n, d⟩, _⟩ := I.tuple h
  obtain ⟨its', r', ⟨o', e', _, n', d'⟩, _⟩ := I.tuple h'
  rw [e] at e'; cases e'
  rw [d] at d'
  injection d' with d1 _
  have : its = its' := by simpa using congrArg Array.toList d1
  subst this
  exact r.inj r'
end

/-! ### another wish about exceptions -/
abbrev Cx.wish (X : Cx) (E : Value → Shared → Prop) : Cx := { X with xe := E }
/-- no exception leaves -/
abbrev Cx.nox (X : Cx) : Cx := X.wish fun _ _ => False
theorem Cx.Ok.wish {X : Cx} (ok : X.Ok) (E : Value → Shared → Prop) : (X.wish E).Ok :=
  ⟨ok.mod, ok.kind, ok.glob, ok.blt, ok.above, ok.inj, ok.has, ok.cab, ok.hd, ok.frames, ok.stk, ok.exf, ok.bs, ok.bsz, ok.noex, ok.exfs, ok.funs, ok.frf⟩
theorem Cx.Ok.unwish {X : Cx} {E : Value → Shared → Prop} (ok : (X.wish E).Ok) : X.Ok :=
  ⟨ok.mod, ok.kind, ok.glob, ok.blt, ok.above, ok.inj, ok.has, ok.cab, ok.hd, ok.frames, ok.stk, ok.exf, ok.bs, ok.bsz, ok.noex, ok.exfs, ok.funs, ok.frf⟩
section
variable {X : Cx} {pins : List (Addr × Obj)} {σ : St} {H : Hp} {s : Shared} {E : Value → Shared → Prop}
theorem Inv.wish (I : Inv X pins σ H s) (E : Value → Shared → Prop) : Inv (X.wish E) pins σ H s := ⟨I.ok.wish E, I.os, I.bare, I.base, I.loc, I.cell, I.free, I.freeC, I.pin, I.hok, I.len⟩
theorem Inv.unwish (I : Inv (X.wish E) pins σ H s) : Inv X pins σ H s := ⟨I.ok.unwish, I.os, I.bare, I.base, I.loc, I.cell, I.free, I.freeC, I.pin, I.hok, I.len⟩
theorem SP.unwish {D : Ends} {f : Flow} {s' : Shared} (h : SP (X.wish E) pins D f s') : SP X pins D f s' := by
  cases f with
  | next => obtain ⟨σ', H', I, q⟩ := h; exact ⟨σ', H', I.unwish, q⟩
  | brk => obtain ⟨σ', H', I, q⟩ := h; exact ⟨σ', H', I.unwish, q⟩
  | cont => obtain ⟨σ', H', I, q⟩ := h; exact ⟨σ', H', I.unwish, q⟩
  | ret u => obtain ⟨v, σ', H', I, r, q⟩ := h; exact ⟨v, σ', H', I.unwish, r, q⟩
theorem PSs.nox {st : List Stmt} {t : TS} (h : PSs X.nox st t) : PSs X st t := fun pins s σ H D I hw =>
  wpAny_mono (h pins s σ H D (I.wish _) hw) (fun _ _ q => q.unwish) fun _ _ z => False.elim z
end

/-! ### blocks and small statements -/
section
variable {X : Cx} {st : Stmt} {rest : List Stmt} {t u : TS} {e : Expr} {te : TE} {pos : Pos}
def tNext : TS := fun D σ H => D.nx σ H
def tSeq (t u : TS) : TS := fun D σ H => t { D with nx := u D } σ H
theorem pss_nil : PSs X [] tNext := fun _ _ σ H _ I h => wpAny_execs_nil ⟨σ, H, I, h⟩
theorem pss_cons (h1 : PS X st t) (h2 : PSs X rest u) : PSs X (st :: rest) (tSeq t u) := by
  intro pins s σ H D I h
  refine wpAny_execs_cons (thn (h1 pins s σ H { D with nx := u D } I h) fun f s1 q => ?_)
  cases f with
  | next =>
    obtain ⟨σ', H', I', q⟩ := q
    exact h2 pins s1 σ' H' D I' q
  | ret v => exact q
  | brk => exact q
  | cont => exact q
theorem pss_one (h1 : PS X st t) : PSs X [st] t := by
  intro pins s σ H D I h
  refine wpAny_execs_cons (thn (h1 pins s σ H D I h) fun f s1 q => ?_)
  cases f with
  | next => exact wpAny_execs_nil q
  | ret v => exact q
  | brk => exact q
  | cont => exact q
/-- in a def's body nothing is shown -/
theorem Inv.quiet {pins : List (Addr × Obj)} {σ : St} {H : Hp} {s : Shared} (I : Inv X pins σ H s) : interactive X.env = false := by simp [interactive, I.ok.kind]
/-- an expression whose value is dropped -/
def tDrop (te : TE) : TS := fun D σ H => te σ H fun _ H1 => D.nx σ H1
theorem ps_expr (he : PE X e te) (hs : swapsWith e none pos.line X.env = pure false := by rfl) : PS X (.Expr e pos) (tDrop te) := by
  intro pins s σ H D I h
  exact wpAny_Expr_any (thn (he pins s σ H _ I h) fun v s1 ⟨x, H1, I1, r1, q1⟩ => ⟨σ, H1, I1, q1⟩) I.quiet hs
def tRet (te : TE) : TS := fun D σ H => te σ H D.rt
theorem ps_ret (he : PE X e te) : PS X (.Return (some e) pos) (tRet te) := by
  intro pins s σ H D I h
  exact wpAny_Return_some (thn (he pins s σ H _ I h) fun v s1 ⟨x, H1, I1, r1, q1⟩ => ⟨x, σ, H1, I1, r1, q1⟩)
def tIfS (c : TT) (t u : TS) : TS := fun D σ H => c σ H fun b H1 => if b = true then t D σ H1 else u D σ H1
theorem ps_if {c : Expr} {a b : List Stmt} {tc : TT} (hc : PT X c tc) (ha : PSs X a t) (hb : PSs X b u) : PS X (.If c a b pos) (tIfS tc t u) := by
  intro pins s σ H D I h
  refine wpAny_If (thn (hc pins s σ H _ I h) fun d s1 ⟨H1, I1, q1⟩ => ?_)
  cases d with
  | true => exact ha pins s1 σ H1 D I1 q1
  | false => exact hb pins s1 σ H1 D I1 q1
end

/-! ### targets -/
abbrev TG := V → St → Hp → (St → Hp → Prop) → Prop
abbrev TGs := List V → St → Hp → (St → Hp → Prop) → Prop
def PG (X : Cx) (target : Expr) (t : TG) : Prop :=
  ∀ (pins : List (Addr × Obj)) (s : Shared) (σ : St) (H : Hp) (v : V) (u : Value) (Q : St → Hp → Prop), Inv X pins σ H s → RelV v u → t v σ H Q →
    wpAny (model X.prog X.w) X.A (assign target X.env u) (fun _ s' => ∃ σ' H', Inv X pins σ' H' s' ∧ Q σ' H') X.xe s
/-- several targets, one after another -/
def PGs (X : Cx) (ts : List Expr) (t : TGs) : Prop :=
  ∀ (pins : List (Addr × Obj)) (s : Shared) (σ : St) (H : Hp) (vs : List V) (us : List Value) (Q : St → Hp → Prop), Inv X pins σ H s → Vals vs us → t vs σ H Q →
    wpAny (model X.prog X.w) X.A (assignInOrder ((assignEach ts X.env).map (·.2)) us) (fun _ s' => ∃ σ' H', Inv X pins σ' H' s' ∧ Q σ' H') X.xe s
/-- o[i] = v, by values -/
abbrev TSet := V → V → V → Hp → (Hp → Prop) → Prop
def PSet (X : Cx) (t : TSet) : Prop :=
  ∀ (pins : List (Addr × Obj)) (s : Shared) (σ : St) (H : Hp) (o i v : V) (ov iv u : Value) (Q : Hp → Prop), Inv X pins σ H s → RelV o ov → RelV i iv → RelV v u → t o i v H Q →
    wpAny (model X.prog X.w) X.A (setItem ov iv u) (fun _ s' => ∃ H', Inv X pins σ H' s' ∧ Q H') X.xe s
section
variable {X : Cx} {pos : Pos}
def gName (i : Nat) : TG := fun v σ H Q => Q (σ.set i (some v)) H
theorem pg_name {i : Nat} {x : Str} (hN : X.N.Nodup) (hi : X.N[i]? = some x) (hx : Loc X.env.scope x) (hf : X.fn x = true ∨ X.env.scope.names.lookup x = some .local := by first | exact .inl rfl | exact .inr rfl | assumption) : PG X (.Name x pos) (gName i) := by
  intro pins s σ H v u Q I r h
  exact wpAny_assign_Name (store_ok I hN hi hx r (fun s' I' => ⟨_, H, I', h⟩) hf)
def gNil : TGs := fun vs σ H Q => vs = [] ∧ Q σ H
def gCons (t : TG) (u : TGs) : TGs := fun vs σ H Q => ∃ v r, vs = v :: r ∧ t v σ H fun σ' H' => u r σ' H' Q
theorem pgs_nil : PGs X [] gNil := by
  intro pins s σ H vs us Q I r h
  obtain ⟨e, h⟩ := h
  subst e
  cases r
  exact assignInOrder_nil ⟨σ, H, I, h⟩
theorem pgs_cons {e : Expr} {es : List Expr} {t : TG} {u : TGs} (h1 : PG X e t) (h2 : PGs X es u)
    (hs : (assignEach (e :: es) X.env).map (·.2) = assign e X.env :: (assignEach es X.env).map (·.2) := by rfl) : PGs X (e :: es) (gCons t u) := by
  intro pins s σ H vs us Q I r h
  obtain ⟨v, vr, e1, h⟩ := h
  subst e1
  cases r with
  | cons r rr =>
    rw [hs]
    refine assignInOrder_cons (thn (h1 pins s σ H _ _ _ I r h) fun _ s1 ⟨σ1, H1, I1, q1⟩ => ?_)
    exact h2 pins s1 σ1 H1 _ _ Q I1 rr q1
/-- (a, b, ..) = a tuple of that length -/
def gTup (K : PySem.W.Frag) (n : Nat) (t : TGs) : TG := fun v σ H Q => ∃ a xs, v = .ref a ∧ SqT K H a xs ∧ xs.length = n ∧ t xs σ H Q
theorem pg_tup {es : List Expr} {k : Nat} {t : TGs} {n : Nat} (hc : X.calm = true) (h : PGs X es t)
    (hn : (assignEach es X.env).length = n := by rfl) (hst : (assignEach es X.env).findIdx? (·.1) = none := by rfl) : PG X (.Tuple es k pos) (gTup X.K n t) := by
  intro pins s σ H v u Q I r hw
  obtain ⟨a, xs, e1, hq, hl, hw⟩ := hw
  subst e1
  cases r
  obtain ⟨its, rv, ht, hz⟩ := I.tuple hq
  refine assign_Tuple_tuple (I.ok.hd hc) ht (by simp [hn, ← hl, rv.length]) hst fun h' hx => ?_
  have I1 : Inv X pins σ H { s with heap := h' } := I.kept (t' := s.toks) fun b o e => hx b o (Nat.ne_of_lt (Heap.lt_size e)) e
  exact h pins _ σ H xs _ Q I1 (by simpa using rv) hw
/-- o[i] = .. -/
def gSub (to ti : TE) (t : TSet) : TG := fun v σ H Q => to σ H fun o H1 => ti σ H1 fun i H2 => t o i v H2 fun H3 => Q σ H3
theorem pg_sub {o i : Expr} {to ti : TE} {t : TSet} (ho : PE X o to) (hi : PE X i ti) (hs : PSet X t)
    (ha : ∀ v, assign (.Subscript o i pos) X.env v = (do
      let ov ← holding [v] (eval o X.env)
      let iv ← holding [v, ov] (eval i X.env)
      standAt pos
      holding [v, ov, iv] (setItem ov iv v)
      release [v, ov, iv] []) := by intro _; rfl) : PG X (.Subscript o i pos) (gSub to ti t) := by
  intro pins s σ H v u Q I r h
  rw [ha]
  refine wpAny_bind (wpAny_holding (thn (ho pins s σ H _ I h) fun ov s1 ⟨x, H1, I1, r1, q1⟩ => ?_))
  refine wpAny_bind (wpAny_holding (thn (hi pins s1 σ H1 _ I1 q1) fun iv s2 ⟨y, H2, I2, r2, q2⟩ => ?_))
  refine wpAny_bind (wpAny_standAt (wpAny_bind (wpAny_holding (thn (hs pins s2 σ H2 x y v ov iv u _ I2 r1 r2 r q2) fun _ s3 ⟨H3, I3, q3⟩ => ?_))))
  exact wpAny_release ⟨σ, H3, I3, q3⟩
/-- target = value -/
def tAsg (te : TE) (g : TG) : TS := fun D σ H => te σ H fun x H1 => g x σ H1 D.nx
theorem ps_asg {tg e : Expr} {te : TE} {g : TG} (he : PE X e te) (hg : PG X tg g) (hs : swapsWithSole [tg] e pos.line X.env = pure false := by rfl) (hw : swappedStores [tg] e X.env = pure none := by rfl)
    (h1 : (assignEach [tg] X.env).map (·.2) = [assign tg X.env] := by rfl) : PS X (.Assign [tg] e pos) (tAsg te g) := by
  intro pins s σ H D I h
  refine wpAny_Assign_stores (thn (he pins s σ H _ I h) fun v s1 ⟨x, H1, I1, r1, q1⟩ => ?_) hs hw
  rw [h1]
  exact thn (hg pins s1 σ H1 x v _ I1 r1 q1) fun _ s2 q => q
/-- name = value -/
theorem ps_set {i : Nat} {x : Str} {e : Expr} {te : TE} {pos' : Pos} (hN : X.N.Nodup) (hi : X.N[i]? = some x) (hx : Loc X.env.scope x) (he : PE X e te) (hs : swapsWith e (some (.Name x pos')) pos.line X.env = pure false := by rfl) (hf : X.fn x = true ∨ X.env.scope.names.lookup x = some .local := by first | exact .inl rfl | exact .inr rfl | assumption) :
    PS X (.Assign [.Name x pos'] e pos) (tAsg te (gName i)) := by
  intro pins s σ H D I h
  refine wpAny_Assign_Name (thn (he pins s σ H _ I h) fun v s1 ⟨y, H1, I1, r1, q1⟩ => ?_) hs
  exact store_ok I1 hN hi hx r1 (fun s2 I2 => ⟨_, H1, I2, q1⟩) hf
end

/-! ### while -/
section
variable {X : Cx} {pos : Pos}
end

/-! ### what a loop or a comprehension walks -/
/-- at turn i: it yields x (the heap may grow), or it stops -/
structure It where
  go : Nat → Hp → Prop
  yld : Nat → Hp → V → Hp → Prop
  stop : Nat → Hp → Prop
/-- the iterator's own objects may turn: they are not the frame's, not pinned, younger than the entry (or a comprehension's own) -/
def FpOk (X : Cx) (pins : List (Addr × Obj)) (H : Hp) (b : Addr) : Prop :=
  H b = none ∧ b ≠ X.env.locals ∧ b ∉ X.fs ∧ (b ∈ X.ex ∨ X.s₀.heap.objs.size ≤ b) ∧ (∀ x c, X.env.cells.lookup x = some c → c ≠ b) ∧ ∀ p ∈ X.pn ++ pins, p.1 ≠ b
theorem Inv.fpOk {X : Cx} {pins : List (Addr × Obj)} {σ : St} {H H' : Hp} {s : Shared} {b : Addr} (I : Inv X pins σ H s) (hb : s.heap.objs.size ≤ b) (hn : H' b = none) : FpOk X pins H' b := by
  refine ⟨hn, Nat.ne_of_gt (Nat.lt_of_lt_of_le I.lt hb), I.nofs hb, .inr (Nat.le_trans I.sz hb), fun x c e z => ?_, fun p hp z => ?_⟩
  · obtain ⟨v, q⟩ := I.cell x c e
    exact absurd (Nat.lt_of_lt_of_le q.lt (by rw [z]; exact hb)) (Nat.lt_irrefl _)
  · exact absurd (Nat.lt_of_lt_of_le (Heap.lt_size (I.pin p hp).1) (by rw [z]; exact hb)) (Nat.lt_irrefl _)
structure Turn (P : Program) (w : World) (K : PySem.W.Frag) (tg : Expr) (J : It) (fp : List Addr) (it : Addr) (tn : Nat → Heap → Prop) : Prop where
  mem : it ∈ fp
  obj : ∀ i h, tn i h → ∀ b ∈ fp, ∃ o, h.get? b = some o ∧ ∀ v, o.data ≠ .cell v
  keep : ∀ i h h', tn i h → (∀ b ∈ fp, ∀ o, h.get? b = some o → h'.get? b = some o) → tn i h'
  item : ∀ (X : Cx), X.prog = P → X.w = w → X.K = K → X.calm = true → ∀ (i : Nat) (pins : List (Addr × Obj)) (s : Shared) (σ : St) (H : Hp) (E : Value → Shared → Prop), Inv X pins σ H s → (∀ b ∈ fp, FpOk X pins H b) → tn i s.heap → J.go i H →
    wpAny (model P w) X.A (pyNext (.ref it)) (fun r s1 => ∃ u, r = some u ∧
      wpAny (model P w) X.A (letOwnedTupleGo tg (.ref it) u) (fun _ s2 => ∃ x H', Inv X pins σ H' s2 ∧ RelV x u ∧ J.yld i H x H' ∧ tn (i + 1) s2.heap ∧ ∀ b ∈ fp, H' b = none) E s1) E s
  done : ∀ (X : Cx), X.prog = P → X.w = w → X.K = K → X.calm = true → ∀ (i : Nat) (pins : List (Addr × Obj)) (s : Shared) (σ : St) (H : Hp) (E : Value → Shared → Prop), Inv X pins σ H s → (∀ b ∈ fp, FpOk X pins H b) → tn i s.heap → J.stop i H →
    wpAny (model P w) X.A (pyNext (.ref it)) (fun r s1 => r = none ∧ Inv X pins σ H s1) E s
  self : ∀ (A : Around) (i : Nat) (s : Shared) (Q : Value → Shared → Prop) (E : Value → Shared → Prop), tn i s.heap → Q (.ref it) s → wpAny (model P w) A (pyIter (.ref it)) Q E s
abbrev TI := St → Hp → (It → Hp → Prop) → Prop
/-- an iterator has come -/
def PIE (X : Cx) (pins : List (Addr × Obj)) (σ : St) (tg : Expr) (R : It → Hp → Prop) (itv : Value) (s2 : Shared) : Prop :=
  ∃ (it : Addr) (fp : List Addr) (tn : Nat → Heap → Prop) (J : It) (H' : Hp), itv = .ref it ∧ Inv X pins σ H' s2 ∧ Turn X.prog X.w X.K tg J fp it tn ∧ tn 0 s2.heap ∧ (∀ b ∈ fp, FpOk X pins H' b) ∧ R J H'
def PI (X : Cx) (tg iter : Expr) (wi : TI) : Prop :=
  ∀ (pins : List (Addr × Obj)) (s : Shared) (σ : St) (H : Hp) (R : It → Hp → Prop), Inv X pins σ H s → wi σ H R →
    wpAny (model X.prog X.w) X.A (eval iter X.env) (fun v s1 => wpAny (model X.prog X.w) X.A (pyIter v) (PIE X pins σ tg R) X.xe s1) X.xe s

/-- the step ahead of the store is nothing for an iterator that keeps no tuple -/
theorem go_of {M : Model} {A : Around} {E : Value → Shared → Prop} {s : Shared} {tg : Expr} {it : Addr} {u : Value} {o : Obj} {n : String} {vs : Array Value} {Q : Unit → Shared → Prop} (ho : s.heap.get? it = some o) (hc : o.cls = .type n) (hd : o.data = .fields vs)
    (hn : ["enumerate", "zip", "dict_itemiterator", "dict_reverseitemiterator", "odict_iterator", "itertools.zip_longest", "itertools.pairwise"].contains n = false) (hQ : Q () s) : wpAny M A (letOwnedTupleGo tg (.ref it) u) Q E s := by
  unfold letOwnedTupleGo
  cases tg <;> first
    | exact wpAny_pure hQ
    | (cases u <;> first
        | exact wpAny_pure hQ
        | (refine wpAny_bind (wpAny_load ho ?_)
           rw [hc, hd]
           show wpAny M A (if (["enumerate", "zip", "dict_itemiterator", "dict_reverseitemiterator", "odict_iterator", "itertools.zip_longest", "itertools.pairwise"].contains n && vs[0]? == some (rawInt _)) = true then _ else _) Q E s
           rw [if_neg (by intro h; rw [hn, Bool.false_and] at h; cases h)]
           exact wpAny_pure hQ))

/-- the list at a, as it stands at each turn (a loop may append to it) -/
def Itl (K : PySem.W.Frag) (a : Addr) : It :=
  ⟨fun i H => ∃ xs x, SqL K H a xs ∧ xs[i]? = some x, fun i H x H' => H' = H ∧ ∀ xs, SqL K H a xs → xs[i]? = some x, fun i H => ∃ xs, SqL K H a xs ∧ xs.length ≤ i⟩
def Itt (K : PySem.W.Frag) (a : Addr) : It :=
  ⟨fun i H => ∃ xs x, SqT K H a xs ∧ xs[i]? = some x, fun i H x H' => H' = H ∧ ∀ xs, SqT K H a xs → xs[i]? = some x, fun i H => ∃ xs, SqT K H a xs ∧ xs.length ≤ i⟩
/-- lo, lo + 1, .. (n of them) -/
def Itr (lo : Int) (n : Nat) : It := ⟨fun i _ => i < n, fun i H x H' => H' = H ∧ x = .int (lo + i), fun i _ => n ≤ i⟩
theorem turn_list {P : Program} {w : World} {K : PySem.W.Frag} {tg : Expr} (a it : Addr) : Turn P w K tg (Itl K a) [it] it (fun i h => h.IsListIter it a i) where
  mem := by simp
  obj := fun i h st b hb => by
    have e : b = it := by simpa using hb
    subst e
    obtain ⟨o, e, c, d⟩ := st
    exact ⟨o, e, fun v z => by rw [d] at z; cases z⟩
  keep := fun i h h' st k => st.at fun o e => k it (by simp) o e
  item := by
    intro X hP hw hK hc i pins s σ H E I hf st hg
    subst hP hw hK
    obtain ⟨xs, x, hq, hx⟩ := hg
    obtain ⟨its, rv, p, hz⟩ := I.list hq
    obtain ⟨u, hu, ru⟩ := rv.get hx
    obtain ⟨f0, f1, f2, f3, f4, f5⟩ := hf it (by simp)
    refine wpAny_pyNext_list_item st p.isList (x := u) (by simpa using hu) fun h' st' sb => ?_
    have I1 : Inv X pins σ H { s with heap := h' } := I.turned (t' := s.toks) (fun b o hb e => (sb.2 b hb).trans e) f0 f1 f3 f4 f5
    obtain ⟨o, e, c, d⟩ := id st'
    exact ⟨u, rfl, go_of (s := { s with heap := h' }) e c d (by decide) ⟨x, H, I1, ru, ⟨rfl, fun ys hy => by rw [I.list_inj hy hq]; exact hx⟩, st', fun b hb => (hf b hb).1⟩⟩
  done := by
    intro X hP hw hK hc i pins s σ H E I hf st hg
    subst hP hw hK
    obtain ⟨xs, hq, hx⟩ := hg
    obtain ⟨its, rv, p, hz⟩ := I.list hq
    obtain ⟨f0, f1, f2, f3, f4, f5⟩ := hf it (by simp)
    have hl := rv.length
    exact wpAny_pyNext_list_end (I.ok.hd hc) st p.isList (by simp; omega) fun h' eb => ⟨rfl, I.turned (t' := s.toks) (fun b o hb e => eb b o hb e) f0 f1 f3 f4 f5⟩
  self := fun _ _ _ _ _ st h => wpAny_pyIter_listiter st h
theorem turn_tuple {P : Program} {w : World} {K : PySem.W.Frag} {tg : Expr} (a it : Addr) : Turn P w K tg (Itt K a) [it] it (fun i h => h.IsTupleIter it a i) where
  mem := by simp
  obj := fun i h st b hb => by
    have e : b = it := by simpa using hb
    subst e
    obtain ⟨o, e, c, d⟩ := st
    exact ⟨o, e, fun v z => by rw [d] at z; cases z⟩
  keep := fun i h h' st k => st.at fun o e => k it (by simp) o e
  item := by
    intro X hP hw hK hc i pins s σ H E I hf st hg
    subst hP hw hK
    obtain ⟨xs, x, hq, hx⟩ := hg
    obtain ⟨its, rv, p, hz⟩ := I.tuple hq
    obtain ⟨u, hu, ru⟩ := rv.get hx
    obtain ⟨f0, f1, f2, f3, f4, f5⟩ := hf it (by simp)
    refine wpAny_pyNext_tuple_item st (show s.heap.IsTuple a its.toArray from p) (x := u) (by simpa using hu) fun h' st' sb => ?_
    have I1 : Inv X pins σ H { s with heap := h' } := I.turned (t' := s.toks) (fun b o hb e => (sb.2 b hb).trans e) f0 f1 f3 f4 f5
    obtain ⟨o, e, c, d⟩ := id st'
    exact ⟨u, rfl, go_of (s := { s with heap := h' }) e c d (by decide) ⟨x, H, I1, ru, ⟨rfl, fun ys hy => by rw [I.tuple_inj hy hq]; exact hx⟩, st', fun b hb => (hf b hb).1⟩⟩
  done := by
    intro X hP hw hK hc i pins s σ H E I hf st hg
    subst hP hw hK
    obtain ⟨xs, hq, hx⟩ := hg
    obtain ⟨its, rv, p, hz⟩ := I.tuple hq
    obtain ⟨f0, f1, f2, f3, f4, f5⟩ := hf it (by simp)
    have hl := rv.length
    exact wpAny_pyNext_tuple_end (I.ok.hd hc) st (show s.heap.IsTuple a its.toArray from p) (by simp; omega) fun h' eb => ⟨rfl, I.turned (t' := s.toks) (fun b o hb e => eb b o hb e) f0 f1 f3 f4 f5⟩
  self := fun _ _ _ _ _ st h => wpAny_pyIter_tupleiter st h
theorem turn_range {P : Program} {w : World} {K : PySem.W.Frag} {tg : Expr} (it : Addr) (lo : Int) (n : Nat) : Turn P w K tg (Itr lo n) [it] it (fun i h => IsRangeIter h it (lo + (i : Nat) * 1) ((n : Int) - (i : Nat)) 1) where
  mem := by simp
  obj := fun i h st b hb => by
    have e : b = it := by simpa using hb
    subst e
    exact ⟨_, st, fun v z => by
      have z' : Data.fields _ = Data.cell v := z
      cases z'⟩
  keep := fun i h h' st k => k it (by simp) _ st
  item := by
    intro X hP hw hK hc i pins s σ H E I hf st hg
    subst hP hw hK
    obtain ⟨f0, f1, f2, f3, f4, f5⟩ := hf it (by simp)
    have W := Walks.range (prog := X.prog) (w := X.w) (I.ok.hd hc) it lo 1 n
    refine W.item i s _ _ hg st fun v h' tk hv st' kk => ?_
    obtain ⟨t, rfl⟩ := hv
    have I1 : Inv X pins σ H { s with heap := h', toks := tk } := I.turned (fun b o hb e => kk b o (by simpa using hb) e) f0 f1 f3 f4 f5
    refine ⟨_, rfl, go_of (s := { s with heap := h', toks := tk }) (n := "range_iterator") st' rfl rfl (by decide) ⟨.int (lo + i), H, I1, ⟨t, ?_⟩, ⟨rfl, rfl⟩, st', fun b hb => (hf b hb).1⟩⟩
    rw [Int.mul_one]
  done := by
    intro X hP hw hK hc i pins s σ H E I hf st hg
    subst hP hw hK
    obtain ⟨f0, f1, f2, f3, f4, f5⟩ := hf it (by simp)
    exact wpAny_pyNext_range_end (I.ok.hd hc) st (by have : n ≤ i := hg; omega) fun h' eb => ⟨rfl, I.turned (t' := s.toks) (fun b o hb e => eb b o hb e) f0 f1 f3 f4 f5⟩
  self := fun _ _ _ _ _ st h => wpAny_pyIter_rangeiter st h
end L2

namespace L2
open PySem PySem.Spec PyProof.Rows
section
variable {X : Cx} {tg : Expr}
/-- a range object just made, walked -/
theorem range_it {pins : List (Addr × Obj)} {σ : St} {H : Hp} {s : Shared} {R : It → Hp → Prop} {E : Value → Shared → Prop} {lo hi : Int} {t u v : Tok} {tk : Nat} (I : Inv X pins σ H s) (h1 : -(2 ^ 62) ≤ lo) (h2 : lo < 2 ^ 62) (h3 : -(2 ^ 62) ≤ hi) (h4 : hi < 2 ^ 62)
    (q : R (Itr lo (hi - lo).toNat) H) : wpAny (model X.prog X.w) X.A (pyIter (.ref s.heap.objs.size)) (PIE X pins σ tg R) E { s with heap := s.heap.push { cls := .type "range", data := .fields #[.int lo t, .int hi u, .int 1 v] }, toks := tk } := by
  refine wpAny_pyIter_range (IsRange.new ..) (small_one h1 h2 h3 h4) ?_
  have I1 : Inv X pins σ H { s with heap := s.heap.push { cls := .type "range", data := .fields #[.int lo t, .int hi u, .int 1 v] }, toks := tk } := I.kept fun b o e => Heap.get?_push_of_some _ e
  refine ⟨(s.heap.push { cls := .type "range", data := .fields #[.int lo t, .int hi u, .int 1 v] }).objs.size, [(s.heap.push { cls := .type "range", data := .fields #[.int lo t, .int hi u, .int 1 v] }).objs.size], _, _, H, rfl,
    I1.kept (t' := tk) fun b o e => Heap.get?_push_of_some _ e, turn_range _ lo (hi - lo).toNat, ?_, fun b hb => ?_, q⟩
  · have e1 : lo + ((0 : Nat) : Int) * 1 = lo := by simp
    have e2 : (((hi - lo).toNat : Nat) : Int) - ((0 : Nat) : Int) = Builtin.Range.rangeSize lo hi 1 := by rw [rangeSize_one]; split <;> omega
    show IsRangeIter _ _ (lo + ((0 : Nat) : Int) * 1) ((((hi - lo).toNat : Nat) : Int) - ((0 : Nat) : Int)) 1
    rw [e1, e2]
    exact Heap.get?_push_size _ rfl
  · have e : b = (s.heap.push { cls := .type "range", data := .fields #[.int lo t, .int hi u, .int 1 v] }).objs.size := by simpa using hb
    subst e
    exact I1.fpOk (Nat.le_refl _) (I1.hok.fresh (Nat.le_refl _))
/-! ### for -/
/-- W: the invariant by the turn and a measure; N: what the body is to reach -/
def tFor (wi : TI) (g : TG) (tb : TS) : TS := fun D σ H => wi σ H fun J H1 => ∃ W : Nat → Nat → St → Hp → Prop, (∃ m, W 0 m σ H1) ∧ ∀ i m σ H, W i m σ H →
  (J.stop i H ∧ D.nx σ H) ∨ (J.go i H ∧ ∃ N : St → Hp → Prop, (∀ σ' H', N σ' H' → ∃ m', m' < m ∧ W (i + 1) m' σ' H') ∧ ∀ x H', J.yld i H x H' → g x σ H' fun σ2 H2 => tb { D with nx := N, ct := N, bk := D.nx } σ2 H2)
/-- the records at fp as they stand -/
def pinsAt (fp : List Addr) (h : Heap) : List (Addr × Obj) := fp.filterMap fun b => (h.get? b).map fun o => (b, o)
theorem mem_pinsAt {fp : List Addr} {h : Heap} {b : Addr} {o : Obj} (hb : b ∈ fp) (e : h.get? b = some o) : (b, o) ∈ pinsAt fp h := List.mem_filterMap.mpr ⟨b, hb, by rw [e]; rfl⟩
theorem of_pinsAt {fp : List Addr} {h : Heap} {p : Addr × Obj} (hp : p ∈ pinsAt fp h) : p.1 ∈ fp ∧ h.get? p.1 = some p.2 := by
  obtain ⟨b, hb, e⟩ := List.mem_filterMap.mp hp
  cases q : h.get? b with
  | none => rw [q] at e; cases e
  | some o =>
    rw [q] at e
    have e' : (b, o) = p := Option.some.inj e
    subst e'
    exact ⟨hb, q⟩
theorem Inv.pinned {pins : List (Addr × Obj)} {σ : St} {H : Hp} {s : Shared} {fp : List Addr} (I : Inv X pins σ H s) (hf : ∀ b ∈ fp, FpOk X pins H b) (ho : ∀ b ∈ fp, ∃ o, s.heap.get? b = some o ∧ ∀ v, o.data ≠ .cell v) : Inv X (pins ++ pinsAt fp s.heap) σ H s :=
  I.pins_of fun p hp => (List.mem_append.mp hp).elim (fun z => I.pin p (List.mem_append_right _ z)) fun z => by
    obtain ⟨hb, e⟩ := of_pinsAt z
    obtain ⟨f0, f1, f2, _⟩ := hf p.1 hb
    obtain ⟨o, e', d⟩ := ho p.1 hb
    rw [e] at e'; cases e'
    exact ⟨e, f0, f1, f2, d⟩
theorem Inv.unpinned {pins pl : List (Addr × Obj)} {σ : St} {H : Hp} {s : Shared} (I : Inv X (pins ++ pl) σ H s) : Inv X pins σ H s := I.pins_of fun p hp => I.pin p (List.mem_append_right _ (List.mem_append_left _ hp))
theorem ps_for {iter : Expr} {body : List Stmt} {wi : TI} {g : TG} {tb : TS} {pos : Pos} (hp : PassesOwn (model X.prog X.w) X.A X.env X.xe) (hc : X.calm = true) (hi : PI X tg iter wi) (hg : PG X tg g) (hb : PSs X body tb)
    (hs : ∀ x, foldedSetIterable iter X.env x = pure x := by intro _; rfl) : PS X (.For tg iter body [] pos) (tFor wi g tb) := by
  intro pins s σ H D I h
  refine wpAny_For (thn (hi pins s σ H _ I h) fun v s1 h1 => thn h1 fun itv s2 h2 => ?_) hs
  obtain ⟨it, fp, tn, J, H2, e, I2, T, st2, f2, W, ⟨m0, w0⟩, turn⟩ := h2
  subst e
  -- what stays true of the iterator's objects through the loop
  have stat : ∀ {H' : Hp}, (∀ b ∈ fp, H' b = none) → ∀ b ∈ fp, FpOk X pins H' b := fun hn b hb => ⟨hn b hb, (f2 b hb).2⟩
  refine codeAny_forLoop_any (fun n s' => ∃ i σ' H', Inv X pins σ' H' s' ∧ tn i s'.heap ∧ (∀ b ∈ fp, H' b = none) ∧ W i n σ' H') ?_ m0 ⟨0, σ, H2, I2, st2, fun b hb => (f2 b hb).1, w0⟩
  rintro n s3 ⟨i, σ3, H3, I3, st3, fr3, w3⟩
  rcases turn i n σ3 H3 w3 with ⟨stop, qn⟩ | ⟨go, N, hN, step⟩
  · refine wpAny_passesOwn hp (thn (T.done X rfl rfl rfl hc i pins s3 σ3 H3 X.xe I3 (stat fr3) st3 stop) fun r s4 ⟨hr, I4⟩ => ?_)
    subst hr
    exact wpAny_execs_nil ⟨σ3, H3, I4, qn⟩
  · refine wpAny_passesOwn hp (thn (T.item X rfl rfl rfl hc i pins s3 σ3 H3 X.xe I3 (stat fr3) st3 go) fun r s4 ⟨u, hr, h4⟩ => ?_)
    subst hr
    refine wpAny_passesOwn hp (thn h4 fun _ s5 ⟨x, H5, I5, r5, y5, st5, fr5⟩ => ?_)
    have I5' := I5.pinned (stat fr5) (T.obj _ _ st5)
    refine wpAny_passesOwn hp (thn (hg _ s5 σ3 H5 x u _ I5' r5 (step x H5 y5)) fun _ s6 ⟨σ6, H6, I6, q6⟩ => ?_)
    refine wpAny_passesOwn hp (thn (hb _ s6 σ6 H6 _ I6 q6) fun f s7 q7 => ?_)
    have again : ∀ {σ7 : St} {H7 : Hp}, Inv X (pins ++ pinsAt fp s5.heap) σ7 H7 s7 → N σ7 H7 → ∃ m, m < n ∧ ∃ i σ' H', Inv X pins σ' H' s7 ∧ tn i s7.heap ∧ (∀ b ∈ fp, H' b = none) ∧ W i m σ' H' := fun {σ7 H7} I7 n7 => by
      obtain ⟨m', hm, w7⟩ := hN σ7 H7 n7
      refine ⟨m', hm, i + 1, σ7, H7, I7.unpinned, T.keep _ _ _ st5 fun b hb o e => (I7.pin (b, o) (List.mem_append_right _ (List.mem_append_right _ (mem_pinsAt hb e)))).1, fun b hb => ?_, w7⟩
      obtain ⟨o, e, d⟩ := T.obj _ _ st5 b hb
      exact (I7.pin (b, o) (List.mem_append_right _ (List.mem_append_right _ (mem_pinsAt hb e)))).2.1
    cases f with
    | next => obtain ⟨σ7, H7, I7, n7⟩ := q7; exact again I7 n7
    | cont => obtain ⟨σ7, H7, I7, n7⟩ := q7; exact again I7 n7
    | brk => obtain ⟨σ7, H7, I7, q7⟩ := q7; exact ⟨σ7, H7, I7.unpinned, q7⟩
    | ret v => obtain ⟨x7, σ7, H7, I7, r7, q7⟩ := q7; exact ⟨x7, σ7, H7, I7.unpinned, r7, q7⟩
end

/-! ### the forms one uses -/
/-- over a list that the body leaves as it is -/
theorem for_list {K : PySem.W.Frag} {a : Addr} {xs : List V} {g : TG} {tb : TS} {D : Ends} {σ : St} {H : Hp} (Pv : Nat → St → Hp → Prop) (h0 : Pv 0 σ H) (hl : ∀ i σ H, i ≤ xs.length → Pv i σ H → SqL K H a xs)
    (hs : ∀ i x σ H, xs[i]? = some x → Pv i σ H → g x σ H fun σ2 H2 => tb { D with nx := Pv (i + 1), ct := Pv (i + 1), bk := D.nx } σ2 H2) (hd : ∀ σ H, Pv xs.length σ H → D.nx σ H) :
    ∃ W : Nat → Nat → St → Hp → Prop, (∃ m, W 0 m σ H) ∧ ∀ i m σ H, W i m σ H →
      ((Itl K a).stop i H ∧ D.nx σ H) ∨ ((Itl K a).go i H ∧ ∃ N : St → Hp → Prop, (∀ σ' H', N σ' H' → ∃ m', m' < m ∧ W (i + 1) m' σ' H') ∧ ∀ x H', (Itl K a).yld i H x H' → g x σ H' fun σ2 H2 => tb { D with nx := N, ct := N, bk := D.nx } σ2 H2) := by
  refine ⟨fun i m σ H => m = xs.length - i ∧ i ≤ xs.length ∧ Pv i σ H, ⟨xs.length, by simp, Nat.zero_le _, h0⟩, ?_⟩
  rintro i m σ H ⟨rfl, hi, p⟩
  have q := hl i σ H hi p
  by_cases hlt : i < xs.length
  · refine .inr ⟨⟨xs, xs[i], q, by simp [hlt]⟩, Pv (i + 1), fun σ' H' p' => ⟨xs.length - (i + 1), by omega, rfl, hlt, p'⟩, fun x H' y => ?_⟩
    obtain ⟨e, y⟩ := y
    subst e
    exact hs i x σ _ (y xs q) p
  · have e : i = xs.length := by omega
    subst e
    exact .inl ⟨⟨xs, q, Nat.le_refl _⟩, hd σ H p⟩
theorem for_range {lo : Int} {n : Nat} {g : TG} {tb : TS} {D : Ends} {σ : St} {H : Hp} (Pv : Nat → St → Hp → Prop) (h0 : Pv 0 σ H)
    (hs : ∀ i σ H, i < n → Pv i σ H → g (.int (lo + i)) σ H fun σ2 H2 => tb { D with nx := Pv (i + 1), ct := Pv (i + 1), bk := D.nx } σ2 H2) (hd : ∀ σ H, Pv n σ H → D.nx σ H) :
    ∃ W : Nat → Nat → St → Hp → Prop, (∃ m, W 0 m σ H) ∧ ∀ i m σ H, W i m σ H →
      ((Itr lo n).stop i H ∧ D.nx σ H) ∨ ((Itr lo n).go i H ∧ ∃ N : St → Hp → Prop, (∀ σ' H', N σ' H' → ∃ m', m' < m ∧ W (i + 1) m' σ' H') ∧ ∀ x H', (Itr lo n).yld i H x H' → g x σ H' fun σ2 H2 => tb { D with nx := N, ct := N, bk := D.nx } σ2 H2) := by
  refine ⟨fun i m σ H => m = n - i ∧ i ≤ n ∧ Pv i σ H, ⟨n, by simp, Nat.zero_le _, h0⟩, ?_⟩
  rintro i m σ H ⟨rfl, hi, p⟩
  by_cases hlt : i < n
  · refine .inr ⟨hlt, Pv (i + 1), fun σ' H' p' => ⟨n - (i + 1), by omega, rfl, hlt, p'⟩, fun x H' y => ?_⟩
    obtain ⟨e, y⟩ := y
    subst e y
    exact hs i σ _ hlt p
  · have e : i = n := by omega
    subst e
    exact .inl ⟨Nat.le_refl _, hd σ H p⟩
end L2

namespace L2
open PySem PySem.Spec PyProof.Rows

abbrev R2 := V → V → Hp → VK → Prop
/-- a two-place operation on values: f is binaryOp op, inplaceOp op or compareOp op -/
def OpR (X : Cx) (f : Value → Value → Sem Value) (r : R2) : Prop :=
  ∀ (pins : List (Addr × Obj)) (s : Shared) (σ : St) (H : Hp) (x y : V) (v u : Value) (Q : VK), Inv X pins σ H s → RelV x v → RelV y u → r x y H Q →
    wpAny (model X.prog X.w) X.A (f v u) (EP X pins σ Q) X.xe s
/-- a one-place operation -/
def UnR (X : Cx) (f : Value → Sem Value) (r : V → Hp → VK → Prop) : Prop :=
  ∀ (pins : List (Addr × Obj)) (s : Shared) (σ : St) (H : Hp) (x : V) (v : Value) (Q : VK), Inv X pins σ H s → RelV x v → r x H Q →
    wpAny (model X.prog X.w) X.A (f v) (EP X pins σ Q) X.xe s
/-- a call of a value that is known (a builtin, a type) with values -/
def CallR (X : Cx) (f : Value) (r : List V → Hp → VK → Prop) : Prop :=
  ∀ (pins : List (Addr × Obj)) (s : Shared) (σ : St) (H : Hp) (xs : List V) (us : List Value) (Q : VK), Inv X pins σ H s → Vals xs us → r xs H Q →
    wpAny (model X.prog X.w) X.A (call f us) (EP X pins σ Q) X.xe s
/-- a value's truth -/
def TruR (X : Cx) (r : V → Hp → (Bool → Hp → Prop) → Prop) : Prop :=
  ∀ (pins : List (Addr × Obj)) (s : Shared) (σ : St) (H : Hp) (x : V) (v : Value) (Q : Bool → Hp → Prop), Inv X pins σ H s → RelV x v → r x H Q →
    wpAny (model X.prog X.w) X.A (truthy v) (TP X pins σ Q) X.xe s

def tOp (r : R2) (ta tb : TE) : TE := fun σ H Q => ta σ H fun x H1 => tb σ H1 fun y H2 => r x y H2 Q
def tUn (r : V → Hp → VK → Prop) (ta : TE) : TE := fun σ H Q => ta σ H fun x H1 => r x H1 Q
/-- ints in, under C, and a value out -/
def rI (C : Int → Int → Prop) (g : Int → Int → V) : R2 := fun x y H Q => ∃ i j, x = .int i ∧ y = .int j ∧ C i j ∧ Q (g i j) H
def rI0 (g : Int → Int → V) : R2 := fun x y H Q => ∃ i j, x = .int i ∧ y = .int j ∧ Q (g i j) H
def rU (g : Int → V) : V → Hp → VK → Prop := fun x H Q => ∃ i, x = .int i ∧ Q (g i) H

section
variable {X : Cx} {a b c : Expr} {ta tb tc : TE} {pos : Pos}

theorem binT (ha : PE X a ta) (hb : PE X b tb) {pins : List (Addr × Obj)} {s : Shared} {σ : St} {H : Hp} {R : V → V → Hp → Prop} (I : Inv X pins σ H s)
    (h : ta σ H fun x H1 => tb σ H1 fun y H2 => R x y H2) {Q : Value → Shared → Prop} {f : Value → Value → Sem Value}
    (hf : ∀ v u s2 x y H2, Inv X pins σ H2 s2 → RelV x v → RelV y u → R x y H2 → wpAny (model X.prog X.w) X.A (f v u) Q X.xe s2) :
    wpAny (model X.prog X.w) X.A (eval a X.env) (fun v s₁ => wpAny (model X.prog X.w) X.A (eval b X.env) (fun u s₂ => wpAny (model X.prog X.w) X.A (f v u) Q X.xe s₂) X.xe s₁) X.xe s := by
  refine thn (ha pins s σ H _ I h) fun v s1 ⟨x, H1, I1, r1, q1⟩ => ?_
  refine thn (hb pins s1 σ H1 _ I1 q1) fun u s2 ⟨y, H2, I2, r2, q2⟩ => ?_
  exact hf v u s2 x y H2 I2 r1 r2 q2

theorem pe_op {op : Operator} {r : R2} (ho : OpR X (binaryOp op) r) (ha : PE X a ta) (hb : PE X b tb) : PE X (.BinOp a op b pos) (tOp r ta tb) := by
  intro pins s σ H Q I h
  exact wpAny_BinOp (binT ha hb I h fun v u s2 x y H2 I2 rx ry q => ho pins s2 σ H2 x y v u Q I2 rx ry q)
theorem pe_un {op : UnaryOp} {r : V → Hp → VK → Prop} (ho : UnR X (unaryOp op) r) (ha : PE X a ta) : PE X (.UnaryOp op a pos) (tUn r ta) := by
  intro pins s σ H Q I h
  exact UnaryOp_ (thn (ha pins s σ H _ I h) fun v s1 ⟨x, H1, I1, r1, q1⟩ => ho pins s1 σ H1 x v Q I1 r1 q1)
/-! ### ints -/
theorem opI {f : Value → Value → Sem Value} {C : Int → Int → Prop} {g : Int → Int → Int}
    (rule : ∀ (i j : Int) (t u : Tok) (s : Shared) (Q : Value → Shared → Prop) (E : Value → Shared → Prop), C i j → Q (.int (g i j) s.toks) { s with toks := s.toks + 1 } → wpAny (model X.prog X.w) X.A (f (.int i t) (.int j u)) Q E s) :
    OpR X f (rI C fun i j => .int (g i j)) := by
  intro pins s σ H x y v u Q I rx ry h
  obtain ⟨i, j, rfl, rfl, hc, q⟩ := h
  obtain ⟨t, rfl⟩ := rx
  obtain ⟨t', rfl⟩ := ry
  exact rule i j t t' s _ _ hc ⟨.int (g i j), H, I.tok _, ⟨_, rfl⟩, q⟩
theorem opI0 {f : Value → Value → Sem Value} {g : Int → Int → Int}
    (rule : ∀ (i j : Int) (t u : Tok) (s : Shared) (Q : Value → Shared → Prop) (E : Value → Shared → Prop), Q (.int (g i j) s.toks) { s with toks := s.toks + 1 } → wpAny (model X.prog X.w) X.A (f (.int i t) (.int j u)) Q E s) :
    OpR X f (rI0 fun i j => .int (g i j)) := by
  intro pins s σ H x y v u Q I rx ry h
  obtain ⟨i, j, rfl, rfl, q⟩ := h
  obtain ⟨t, rfl⟩ := rx
  obtain ⟨t', rfl⟩ := ry
  exact rule i j t t' s _ _ ⟨.int (g i j), H, I.tok _, ⟨_, rfl⟩, q⟩
theorem opB0 {f : Value → Value → Sem Value} {g : Int → Int → Bool}
    (rule : ∀ (i j : Int) (t u : Tok) (s : Shared) (Q : Value → Shared → Prop) (E : Value → Shared → Prop), Q (.bool (g i j)) s → wpAny (model X.prog X.w) X.A (f (.int i t) (.int j u)) Q E s) :
    OpR X f (rI0 fun i j => .bl (g i j)) := by
  intro pins s σ H x y v u Q I rx ry h
  obtain ⟨i, j, rfl, rfl, q⟩ := h
  obtain ⟨t, rfl⟩ := rx
  obtain ⟨t', rfl⟩ := ry
  exact rule i j t t' s _ _ ⟨.bl (g i j), H, I, rfl, q⟩

def CPow (i j : Int) : Prop := 0 ≤ j ∧ j ≤ 1000000 ∧ i.natAbs < 2 ^ 64
def CMul (i j : Int) : Prop := (-(2 ^ 64) < i ∧ i < 2 ^ 64) ∨ (-(2 ^ 64) < j ∧ j < 2 ^ 64)
theorem CMul.ok {i j : Int} (h : CMul i j) : IntMulOk i j := by
  rcases h with ⟨h1, h2⟩ | ⟨h1, h2⟩
  · exact .of_left (intBits_le_64 h1 h2)
  · exact .of_right (intBits_le_64 h1 h2)
theorem op_add : OpR X (binaryOp .Add) (rI0 fun i j => .int (i + j)) := opI0 fun _ _ _ _ _ _ _ q => add_int q
theorem op_sub : OpR X (binaryOp .Sub) (rI0 fun i j => .int (i - j)) := opI0 fun _ _ _ _ _ _ _ q => sub_int q
theorem op_modN : OpR X (binaryOp .Mod) (rI (fun _ j => j ≠ 0) fun i j => .int (i.fmod j)) := opI fun _ _ _ _ _ _ _ hc q => mod_int' hc q
theorem op_pow : OpR X (binaryOp .Pow) (rI CPow fun i j => .int (i ^ j.toNat)) := opI fun _ _ _ _ _ _ _ hc q => pow_int_small hc.1 hc.2.1 hc.2.2 q
theorem unI {f : Value → Sem Value} {g : Int → Int}
    (rule : ∀ (i : Int) (t : Tok) (s : Shared) (Q : Value → Shared → Prop) (E : Value → Shared → Prop), Q (.int (g i) s.toks) { s with toks := s.toks + 1 } → wpAny (model X.prog X.w) X.A (f (.int i t)) Q E s) :
    UnR X f (rU fun i => .int (g i)) := by
  intro pins s σ H x v Q I rx h
  obtain ⟨i, rfl, q⟩ := h
  obtain ⟨t, rfl⟩ := rx
  exact rule i t s _ _ ⟨.int (g i), H, I.tok _, ⟨_, rfl⟩, q⟩
theorem un_neg : UnR X (unaryOp .USub) (rU fun i => .int (-i)) := unI fun _ _ _ _ _ q => neg_int q
/-! ### bools among ints: n += (a < b) -/
end

/-! ### comparisons -/
/-- the scalars that == tells apart as data does -/
noncomputable def scal : V → V → Bool
  | .non, .non => true | .non, .int _ => true | .int _, .non => true | .non, .bl _ => true | .bl _, .non => true | .non, .str _ => true | .str _, .non => true
  | .int _, .int _ => true | .bl _, .bl _ => true | .str _, .str _ => true | .byt _, .byt _ => true
  | .int _, .str _ => true | .str _, .int _ => true | .bl _, .str _ => true | .str _, .bl _ => true
  | _, _ => false
def rEq : R2 := fun x y H Q => scal x y = true ∧ Q (.bl (decide (x = y))) H
def rNe : R2 := fun x y H Q => scal x y = true ∧ Q (.bl (!decide (x = y))) H

theorem dec_int {i j : Int} : decide (V.int i = V.int j) = (i == j) := by
  rw [Bool.eq_iff_iff]
  simp
theorem dec_bl {i j : Bool} : decide (V.bl i = V.bl j) = (i == j) := by
  rw [Bool.eq_iff_iff]
  simp
theorem dec_str {i j : Str} : decide (V.str i = V.str j) = (i == j) := by
  rw [Bool.eq_iff_iff]
  simp
theorem dec_byt {i j : Array UInt8} : decide (V.byt i = V.byt j) = (i.toList == j.toList) := by
  rw [Bool.eq_iff_iff]
  cases i
  cases j
  simp

section
variable {X : Cx} {a b c : Expr} {ta tb tc : TE} {pos : Pos}
theorem fin_bl {pins : List (Addr × Obj)} {σ : St} {H : Hp} {s : Shared} {Q : VK} {k k' : Bool} (I : Inv X pins σ H s) (q : Q (.bl k) H) (e : k = k') : EP X pins σ Q (.bool k') s := by
  subst e
  exact ⟨.bl k, H, I, rfl, q⟩
theorem op_eq : OpR X (compareOp .Eq) rEq := by
  intro pins s σ H x y v u Q I rx ry h
  obtain ⟨hs, q⟩ := h
  cases x with
  | non =>
    cases rx
    cases y with
    | non => cases ry; exact PySem.EqNone.eq_none_none (fin_bl I q (by simp))
    | bl j => cases ry; exact PySem.EqNone.eq_none_bool (fin_bl I q (by simp))
    | int j => obtain ⟨t', rfl⟩ := ry; exact PySem.EqNone.eq_none_int (fin_bl I q (by simp))
    | str j => obtain ⟨t', rfl⟩ := ry; exact PySem.EqNone.eq_none_str (fin_bl I q (by simp))
    | _ => exact absurd (show false = true from hs) Bool.false_ne_true
  | bl i =>
    cases rx
    cases y with
    | non => cases ry; exact PySem.EqNone.eq_bool_none (fin_bl I q (by simp))
    | bl j => cases ry; exact eq_bool (fin_bl I q dec_bl)
    | str j => obtain ⟨t', rfl⟩ := ry; exact PySem.EqMixed.eq_bool_str (fin_bl I q (by simp))
    | _ => exact absurd (show false = true from hs) Bool.false_ne_true
  | int i =>
    obtain ⟨t, rfl⟩ := rx
    cases y with
    | non => cases ry; exact PySem.EqNone.eq_int_none (fin_bl I q (by simp))
    | int j => obtain ⟨t', rfl⟩ := ry; exact eq_int (fin_bl I q dec_int)
    | str j => obtain ⟨t', rfl⟩ := ry; exact PySem.EqMixed.eq_int_str (fin_bl I q (by simp))
    | _ => exact absurd (show false = true from hs) Bool.false_ne_true
  | str i =>
    obtain ⟨t, rfl⟩ := rx
    cases y with
    | non => cases ry; exact PySem.EqNone.eq_str_none (fin_bl I q (by simp))
    | bl j => cases ry; exact PySem.EqMixed.eq_str_bool (fin_bl I q (by simp))
    | int j => obtain ⟨t', rfl⟩ := ry; exact PySem.EqMixed.eq_str_int (fin_bl I q (by simp))
    | str j => obtain ⟨t', rfl⟩ := ry; exact eq_str (fin_bl I q dec_str)
    | _ => exact absurd (show false = true from hs) Bool.false_ne_true
  | byt i =>
    obtain ⟨t, rfl⟩ := rx
    cases y with
    | byt j => obtain ⟨t', rfl⟩ := ry; exact PySem.W.eq_bytes (fin_bl I q dec_byt)
    | _ => exact absurd (show false = true from hs) Bool.false_ne_true
  | _ => cases y <;> exact absurd (show false = true from hs) Bool.false_ne_true
theorem op_ne : OpR X (compareOp .NotEq) rNe := by
  intro pins s σ H x y v u Q I rx ry h
  obtain ⟨hs, q⟩ := h
  cases x with
  | non =>
    cases rx
    cases y with
    | non => cases ry; exact PySem.EqNone.ne_none_none (fin_bl I q (by simp))
    | bl j => cases ry; exact PySem.EqNone.ne_none_bool (fin_bl I q (by simp))
    | int j => obtain ⟨t', rfl⟩ := ry; exact PySem.EqNone.ne_none_int (fin_bl I q (by simp))
    | str j => obtain ⟨t', rfl⟩ := ry; exact PySem.EqNone.ne_none_str (fin_bl I q (by simp))
    | _ => exact absurd (show false = true from hs) Bool.false_ne_true
  | bl i =>
    cases rx
    cases y with
    | non => cases ry; exact PySem.EqNone.ne_bool_none (fin_bl I q (by simp))
    | bl j => cases ry; exact ne_bool (fin_bl I q (congrArg not dec_bl))
    | str j => obtain ⟨t', rfl⟩ := ry; exact PySem.EqMixed.ne_bool_str (fin_bl I q (by simp))
    | _ => exact absurd (show false = true from hs) Bool.false_ne_true
  | int i =>
    obtain ⟨t, rfl⟩ := rx
    cases y with
    | non => cases ry; exact PySem.EqNone.ne_int_none (fin_bl I q (by simp))
    | int j => obtain ⟨t', rfl⟩ := ry; exact ne_int (fin_bl I q (congrArg not dec_int))
    | str j => obtain ⟨t', rfl⟩ := ry; exact PySem.EqMixed.ne_int_str (fin_bl I q (by simp))
    | _ => exact absurd (show false = true from hs) Bool.false_ne_true
  | str i =>
    obtain ⟨t, rfl⟩ := rx
    cases y with
    | non => cases ry; exact PySem.EqNone.ne_str_none (fin_bl I q (by simp))
    | bl j => cases ry; exact PySem.EqMixed.ne_str_bool (fin_bl I q (by simp))
    | int j => obtain ⟨t', rfl⟩ := ry; exact PySem.EqMixed.ne_str_int (fin_bl I q (by simp))
    | str j => obtain ⟨t', rfl⟩ := ry; exact ne_str (fin_bl I q (congrArg not dec_str))
    | _ => exact absurd (show false = true from hs) Bool.false_ne_true
  | byt i =>
    obtain ⟨t, rfl⟩ := rx
    cases y with
    | byt j => obtain ⟨t', rfl⟩ := ry; exact PySem.W.ne_bytes (fin_bl I q (congrArg not dec_byt))
    | _ => exact absurd (show false = true from hs) Bool.false_ne_true
  | _ => cases y <;> exact absurd (show false = true from hs) Bool.false_ne_true

theorem op_lt : OpR X (compareOp .Lt) (rI0 fun i j => .bl (decide (i < j))) := opB0 fun _ _ _ _ _ _ _ q => lt_int q
theorem op_le : OpR X (compareOp .LtE) (rI0 fun i j => .bl (decide (i ≤ j))) := opB0 fun _ _ _ _ _ _ _ q => le_int q
theorem op_gt : OpR X (compareOp .Gt) (rI0 fun i j => .bl (decide (j < i))) := opB0 fun _ _ _ _ _ _ _ q => gt_int q
theorem op_ge : OpR X (compareOp .GtE) (rI0 fun i j => .bl (decide (j ≤ i))) := opB0 fun _ _ _ _ _ _ _ q => ge_int q
/-- is None, is not None: the right side a value none -/
theorem op_isN : OpR X (compareOp .Is) (fun x y H Q => y = .non ∧ Q (.bl (decide (x = .non))) H) := by
  intro pins s σ H x y v u Q I rx ry h
  obtain ⟨rfl, q⟩ := h
  cases ry
  refine is_none_gen (fin_bl I q ?_)
  cases x <;> first
    | (cases rx; rfl)
    | (obtain ⟨t, rfl⟩ := rx; rfl)
/-- two rules for one operation: by cases -/
theorem OpR.or {f : Value → Value → Sem Value} {r r' : R2} (h : OpR X f r) (h' : OpR X f r') : OpR X f (fun x y H Q => r x y H Q ∨ r' x y H Q) := by
  intro pins s σ H x y v u Q I rx ry q
  rcases q with q | q
  · exact h pins s σ H x y v u Q I rx ry q
  · exact h' pins s σ H x y v u Q I rx ry q

theorem nomark (b : Expr) {op : CmpOp} (h : op ≠ .In := by decide) (h2 : op ≠ .NotIn := by decide) : behindInMarks op b = false := by
  have e1 : (op == CmpOp.In) = false := by cases op <;> first | rfl | exact absurd rfl h
  have e2 : (op == CmpOp.NotIn) = false := by cases op <;> first | rfl | exact absurd rfl h2
  cases b <;> simp [behindInMarks, e1, e2]
/-- a comparison as a value; hm: nomark b, or (for in, not in) by with_unfolding_all rfl -/
theorem pe_cmpR {op : CmpOp} {r : R2} (ho : OpR X (compareOp op) r) (ha : PE X a ta) (hb : PE X b tb) (hm : behindInMarks op b = false) : PE X (.Compare a [op] [b] pos) (tOp r ta tb) := by
  intro pins s σ H Q I h
  exact wpAny_Compare1 (binT ha hb I h fun v u s2 x y H2 I2 rx ry q => ho pins s2 σ H2 x y v u Q I2 rx ry q) hm
/-! ### truth -/
/-- a value's truth by the abstract heap -/
noncomputable def TruV (K : PySem.W.Frag) (x : V) (H : Hp) (k : Bool) : Prop :=
  match x with
  | .non => k = false
  | .bl b => k = b
  | .int i => k = (i != 0)
  | .str y => y.length ≤ sizeLine ∧ k = ((y.length : Int) != 0)
  | .byt y => y.size ≤ sizeLine ∧ k = ((y.size : Int) != 0)
  | .ref p => (∃ xs, SqL K H p xs ∧ k = !xs.isEmpty) ∨ (∃ xs, SqT K H p xs ∧ k = !xs.isEmpty) ∨ ∃ kvs, H p = some (.dK kvs) ∧ k = !kvs.isEmpty
  | _ => False
theorem isEmpty_kv {κ : Type} {kvs : List (κ × V)} {vs : List (κ × Value)} (r : KV kvs vs) : (!vs.isEmpty) = !kvs.isEmpty := by
  cases r <;> rfl
theorem isEmpty_of {xs : List V} {its : List Value} (r : Vals xs its) : (!its.toArray.isEmpty) = !xs.isEmpty := by
  cases r <;> simp
theorem line63 : (sizeLine : Nat) < 2 ^ 63 := by rw [sizeLine_eq]; decide
theorem tru_ok : TruR X (fun x H Q => ∃ k, TruV X.K x H k ∧ Q k H) := by
  intro pins s σ H x v Q I rx h
  obtain ⟨k, e, q⟩ := h
  have hl := line63
  have hs : sizeLine = 16777216 := sizeLine_eq
  cases x with
  | non =>
    cases rx
    have e' : k = false := e
    subst e'
    exact truthy_none ⟨H, I, q⟩
  | bl b =>
    cases rx
    have e' : k = b := e
    subst e'
    exact wpAny_truthy_bool ⟨H, I, q⟩
  | int i =>
    obtain ⟨t, rfl⟩ := rx
    have e' : k = (i != 0) := e
    subst e'
    exact PySem.P.truthy_int ⟨H, I, q⟩
  | str y =>
    obtain ⟨t, rfl⟩ := rx
    obtain ⟨hy, e'⟩ : y.length ≤ sizeLine ∧ k = ((y.length : Int) != 0) := e
    subst e'
    exact PySem.P.truthy_str (by omega) ⟨H, I.tok _, q⟩
  | byt y =>
    obtain ⟨t, rfl⟩ := rx
    obtain ⟨hy, e'⟩ : y.size ≤ sizeLine ∧ k = ((y.size : Int) != 0) := e
    subst e'
    exact PySem.W.truthy_bytes (by omega) ⟨H, I.tok _, q⟩
  | ref p =>
    cases rx
    have e' : (∃ xs, SqL X.K H p xs ∧ k = !xs.isEmpty) ∨ (∃ xs, SqT X.K H p xs ∧ k = !xs.isEmpty) ∨ ∃ kvs, H p = some (.dK kvs) ∧ k = !kvs.isEmpty := e
    rcases e' with ⟨xs, hx, e'⟩ | ⟨xs, hx, e'⟩ | ⟨kvs, hx, e'⟩
    · subst e'
      obtain ⟨its, r, pl, hz⟩ := I.list hx
      have hlen := r.length
      exact wpAny_truthy_list pl.isList (by simp only [List.size_toArray]; omega) ⟨H, I.tok _, by rw [isEmpty_of r]; exact q⟩
    · subst e'
      obtain ⟨its, r, pl, hz⟩ := I.tuple hx
      have hlen := r.length
      exact truthy_tuple pl (by simp only [List.size_toArray]; omega) ⟨H, I.tok _, by rw [isEmpty_of r]; exact q⟩
    · subst e'
      obtain ⟨hz, hS, vs, r, m⟩ : kvs.length ≤ sizeLine ∧ (p == sysModules) = false ∧ ∃ vs, KV kvs vs ∧ s.heap.DictOf (mixKind X.prog X.w) p vs := I.hok p _ hx
      have hlen : kvs.length = vs.length := Paired.length r
      exact wpAny_truthy_dict hS m (by omega) ⟨H, I.tok _, by rw [isEmpty_kv r]; exact q⟩
  | _ => exact (show False from e).elim
/-! ### strs and bytes -/
theorem op_add_str : OpR X (binaryOp .Add) (fun x y H Q => ∃ i j, x = .str i ∧ y = .str j ∧ i.length + j.length ≤ sizeLine ∧ Q (.str (i ++ j)) H) := by
  intro pins s σ H x y v u Q I rx ry h
  obtain ⟨i, j, rfl, rfl, hz, q⟩ := h
  obtain ⟨t, rfl⟩ := rx
  obtain ⟨t', rfl⟩ := ry
  exact add_str (fun t' tk => ⟨.str (i ++ j), H, I.tok _, ⟨_, rfl⟩, q⟩) hz
/-! ### scalar builtins, by CallR -/
theorem vals1 {x : V} {us : List Value} (r : Vals [x] us) : ∃ u, us = [u] ∧ RelV x u := by
  cases r with
  | cons r1 r2 => cases r2; exact ⟨_, rfl, r1⟩
theorem vals2 {x y : V} {us : List Value} (r : Vals [x, y] us) : ∃ u w', us = [u, w'] ∧ RelV x u ∧ RelV y w' := by
  cases r with
  | cons r1 r2 =>
    cases r2 with
    | cons r3 r4 => cases r4; exact ⟨_, _, rfl, r1, r3⟩
theorem call_int1 : CallR X (.type "int") (fun xs H Q => (∃ i, xs = [.int i] ∧ Q (.int i) H) ∨ ∃ k, xs = [.bl k] ∧ Q (.int (if k then 1 else 0)) H) := by
  intro pins s σ H xs us Q I r h
  rcases h with ⟨i, rfl, q⟩ | ⟨k, rfl, q⟩
  · obtain ⟨u, rfl, t, rfl⟩ := vals1 r
    exact call_int_int ⟨.int i, H, I, ⟨_, rfl⟩, q⟩
  · obtain ⟨u, rfl, r1⟩ := vals1 r
    cases r1
    exact call_int_bool ⟨.int (if k then 1 else 0), H, I.tok _, ⟨_, rfl⟩, q⟩
end
end L2

namespace L2
open PySem PySem.Spec PyProof.Rows

/-! ### an instance, its attributes a map -/
structure ObjM (h : Heap) (x dx C : Addr) (mA : Str → Option Value) : Prop where
  obj : h.get? x = some (PySem.W.instObj C dx)
  ns : h.Ns1 dx mA
  ne : dx ≠ x

theorem lookIn_ns {h : Heap} {dx : Addr} {mA : Str → Option Value} (n : h.Ns1 dx mA) : ∃ od, h.get? dx = some od ∧ ∀ name, PySem.W.lookIn name od = some (mA name) := by
  obtain ⟨o, es, ep, ho, hd, hk, _, hm⟩ := n
  refine ⟨o, ho, fun name => ?_⟩
  have e := hm name
  unfold nsFind findBy at e
  rw [← Array.find?_toList] at e
  unfold PySem.W.lookIn
  rw [hd]
  dsimp only
  split
  · rename_i y q
    rw [q] at e
    exact congrArg some e
  · rename_i q
    rw [q] at e
    have a : es.toList.any (·.refKey) = false := by
      rw [List.any_eq_false]
      intro y hy
      obtain ⟨z, t, hkey⟩ := hk y (Array.mem_toList_iff.mp hy)
      simp [DictEntry.refKey, hkey]
    have a' : ¬ es.toList.any (·.refKey) = true := by rw [a]; exact Bool.false_ne_true
    rw [if_neg a']
    exact congrArg some e

theorem ObjM.look {h : Heap} {x dx C : Addr} {mA : Str → Option Value} (I : ObjM h x dx C mA) : ∃ od, PySem.W.InstAt h x (PySem.W.instObj C dx) C (some od) ∧ ∀ name, PySem.W.lookIn name od = some (mA name) :=
  let ⟨od, ho, hl⟩ := lookIn_ns I.ns
  ⟨od, ⟨I.obj, rfl, rfl, ho⟩, hl⟩

section
variable {prog : Program} {w : World} {A : Around} {E : Value → Shared → Prop} {s : Shared} {K : PySem.W.Frag} {x dx C f : Addr} {mA : Str → Option Value} {name : Str} {v : Value}

end

/-! ### the attributes as a list of pairs -/
theorem RelO.some_of {v : V} {o : Option Value} (r : RelO (some v) o) : ∃ u, o = some u ∧ RelV v u := by
  cases o with
  | none => exact (show False from r).elim
  | some u => exact ⟨u, rfl, r⟩
theorem handed_of {v : V} {u : Value} (r : RelV v u) : PySem.W.handedIn u = true := by
  cases v with
  | non => cases (show u = Value.none from r); rfl
  | bl b => cases (show u = Value.bool b from r); rfl
  | int i => obtain ⟨t, e⟩ := (show ∃ t, u = Value.int i t from r); cases e; rfl
  | str x => obtain ⟨t, e⟩ := (show ∃ t, u = Value.str x t from r); cases e; rfl
  | byt b => obtain ⟨t, e⟩ := (show ∃ t, u = Value.bytes b t from r); cases e; rfl
  | flt b => obtain ⟨t, e⟩ := (show ∃ t, u = Value.float b t from r); cases e; rfl
  | ref a => cases (show u = Value.ref a from r); rfl
  | ty n => cases (show u = Value.type n from r); rfl

section
variable {P : Program} {w : World} {H H' : Hp} {h h' : Heap} {a C dx : Addr} {fs fs' : List (Str × V)}
theorem ins_get (hok : HOk P w H h) (e : H a = some (.ins C dx fs)) : ∃ mA, ObjM h a dx C mA ∧ (∀ f, RelO (fs.lookup f) (mA f)) ∧ PySem.Within mA (fs.map (·.1)) ∧ fs.length ≤ 1000 ∧ H dx = some (.own a) := by
  obtain ⟨d, z, ne, ob, mA, n, r, q⟩ := (show ObjOk P w H h a (.ins C dx fs) from hok a _ e)
  exact ⟨mA, ⟨ob, n, ne⟩, r, q, z, d⟩
end

/-! ### what of the text a class must have -/
structure Cls (K : PySem.W.Frag) (C : Addr) : Prop where
  pg : PySem.W.plainGet K C Str.empty = true
  hd : PySem.W.hasDictIn K C = true
  po : PySem.W.plainOver K C = true
  sa : PySem.W.findIn K (.ref C) "__setattr__" = some (some (.builtin "object.__setattr__"))
theorem Cls.get {K : PySem.W.Frag} {C : Addr} (c : Cls K C) (f : Str) : PySem.W.plainGet K C f = true := c.pg
section
variable {X : Cx} {pins : List (Addr × Obj)} {σ : St} {H : Hp} {s : Shared} {a C dx : Addr} {fs : List (Str × V)} {f : Str} {v : V} {A : Around} {E : Value → Shared → Prop}

/-- e.f where nothing but the object is asked: through attributeBase (super) and the last hold -/
theorem attr_of {prog : Program} {w : World} {env : Env} {e : Expr} {f : Str} {pos : Pos} {s : Shared} {Q : Value → Shared → Prop} (hb : attributeBase e f env (eval e env) = eval e env)
    (h : wpAny (model prog w) A (eval e env) (fun o s₁ => wpAny (model prog w) A (getAttr o f true) Q E s₁) E s) : wpAny (model prog w) A (eval (.Attribute e f pos) env) Q E s :=
  Attribute_any_ h (by rw [arm_eval_Attribute, hb])
end

/-! ### readings and rules -/
section
variable {X : Cx} {o e value : Expr} {f : Str} {pos pos' tpos : Pos} {ta tv : TE}
end

/-! ### isinstance -/
section
variable {X : Cx} {pins : List (Addr × Obj)} {σ : St} {H : Hp} {s : Shared} {A : Around} {E : Value → Shared → Prop} {Q : Value → Shared → Prop} {c : Value} {b : Bool}
/-- the type of a value, as the fragment's deciders take it; for an instance its class -/
inductive TyOf (K : PySem.W.Frag) (H : Hp) : V → Value → Prop where
  | non : TyOf K H .non (.type "NoneType")
  | bl (x : Bool) : TyOf K H (.bl x) (.type "bool")
  | int (i : Int) : TyOf K H (.int i) (.type "int")
  | str (x : Str) : TyOf K H (.str x) (.type "str")
  | flt (x : UInt64) : TyOf K H (.flt x) (.type "float")
  | lst {a : Addr} {xs : List V} (e : H a = some (.lst xs)) : TyOf K H (.ref a) (.type "list")
  | frz {a : Addr} {o : Obj} {xs : List V} (e : H a = some (.frz o (.lst xs))) : TyOf K H (.ref a) (.type "list")
  | tup {a : Addr} {xs : List V} (e : H a = some (.tup xs)) : TyOf K H (.ref a) (.type "tuple")
  | dK {a : Addr} {kvs : List (Key × V)} (e : H a = some (.dK kvs)) : TyOf K H (.ref a) (.type "dict")
  | dT {a : Addr} {kvs : List (List Key × V)} (e : H a = some (.dT kvs)) : TyOf K H (.ref a) (.type "dict")
  | ins {a C dx : Addr} {fs : List (Str × V)} (e : H a = some (.ins C dx fs)) (cl : Cls K C) (ha : PySem.W.findIn K (.ref C) "__class__" = some (some (.builtin "object.__class__")))
      (hn : PySem.W.specialIn K (.builtin "object.__class__") "__get__" = some (some (.builtin "getset_descriptor.__get__"))) (htk : PySem.W.takesIn K (.builtin "object.__class__") = some true)
      (hm : PySem.W.mroIn K C (.type "object") = some true) : TyOf K H (.ref a) (.ref C)
/-- isinstance(x, c) for one class c, a built-in or an own one: kitOne's answer -/
theorem isinst_ok {x : V} {u t : Value} (I : Inv X pins σ H s) (rx : RelV x u) (ty : TyOf X.K H x t) (e : PySem.W.kitOne X.K t c = some b) (h : ∀ tk, Q (.bool b) { s with toks := tk }) :
    wpAny (model X.prog X.w) A (call (.builtin "isinstance") [u, c]) Q E s := by
  cases ty with
  | non => cases (show u = Value.none from rx); exact PySem.W.kia_one PySem.W.kitx_none I.kIn True.intro e (fun z => nomatch z) h
  | bl y => cases (show u = Value.bool y from rx); exact PySem.W.kia_one PySem.W.kitx_bool I.kIn True.intro e (fun z => nomatch z) h
  | int i => obtain ⟨t, q⟩ := (show ∃ t, u = Value.int i t from rx); cases q; exact PySem.W.kia_one PySem.W.kitx_int I.kIn True.intro e (fun z => nomatch z) h
  | str y => obtain ⟨t, q⟩ := (show ∃ t, u = Value.str y t from rx); cases q; exact PySem.W.kia_one PySem.W.kitx_str I.kIn True.intro e (fun z => nomatch z) h
  | flt y => obtain ⟨t, q⟩ := (show ∃ t, u = Value.float y t from rx); cases q; exact PySem.W.kia_one PySem.W.kitx_float I.kIn True.intro e (fun z => nomatch z) h
  | @lst a xs ea =>
    cases (show u = Value.ref a from rx)
    obtain ⟨_, _, n, _, h1⟩ := (show ObjOk X.prog X.w H s.heap a (.lst xs) from I.hok a _ ea)
    exact PySem.W.kia_one PySem.W.kitx_list I.kIn ⟨_, h1, rfl⟩ e (fun z => nomatch z) h
  | @frz a ob xs ea =>
    cases (show u = Value.ref a from rx)
    obtain ⟨_, _, _, n, _, h1⟩ := (show ObjOk X.prog X.w H s.heap a (.frz ob (.lst xs)) from I.hok a _ ea)
    exact PySem.W.kia_one PySem.W.kitx_list I.kIn ⟨_, h1, rfl⟩ e (fun z => nomatch z) h
  | @tup a xs ea =>
    cases (show u = Value.ref a from rx)
    obtain ⟨_, _, _, p⟩ := (show ObjOk X.prog X.w H s.heap a (.tup xs) from I.hok a _ ea)
    obtain ⟨o, h1, h2, _⟩ := p
    exact PySem.W.kia_one PySem.W.kitx_tuple I.kIn ⟨o, h1, h2⟩ e (fun z => nomatch z) h
  | @dK a kvs ea =>
    cases (show u = Value.ref a from rx)
    obtain ⟨_, _, vs, _, p⟩ := (show ObjOk X.prog X.w H s.heap a (.dK kvs) from I.hok a _ ea)
    obtain ⟨o, es, ep, h1, h2, _⟩ := p
    exact PySem.W.kia_one PySem.W.kitx_dict I.kIn ⟨o, h1, h2.1⟩ e (fun z => nomatch z) h
  | @dT a kvs ea =>
    cases (show u = Value.ref a from rx)
    obtain ⟨_, _, xs, _, o, es, ep, h1, h2, _⟩ := (show ObjOk X.prog X.w H s.heap a (.dT kvs) from I.hok a _ ea)
    exact PySem.W.kia_one PySem.W.kitx_dict I.kIn ⟨o, h1, h2.1⟩ e (fun z => nomatch z) h
  | @ins a C dx fs ea cl ha hn htk hm =>
    cases (show u = Value.ref a from rx)
    obtain ⟨mA, O, _⟩ := ins_get I.hok ea
    obtain ⟨od, J, _⟩ := O.look
    exact PySem.W.kia_one (PySem.W.kitx_own (cl.get _) cl.hd ha hn htk hm) I.kIn J e (fun z => nomatch z) h
end
end L2

namespace L2
open PySem PySem.Spec PyProof.Rows

/-! ### room -/
structure Room (k : Nat) (A : Around) : Prop where
  hd : A.handled = none
  dp : A.depth + 3 * k + 5 < recursionLimit
  un : A.units + 16 * k + 200 < cLine
  gd : A.guards = some []
theorem Room.mono {j k : Nat} {A : Around} (r : Room k A) (h : j ≤ k) : Room j A := ⟨r.hd, by have := r.dp; omega, by have := r.un; omega, r.gd⟩
theorem Room.deeper {k : Nat} {A : Around} (r : Room (k + 1) A) (env : Env) : Room k (A.deeper env) :=
  ⟨r.hd, by have := r.dp; show A.depth + 1 + 3 * k + 5 < _; omega, by have := r.un; show A.units + 3 + 16 * k + 200 < _; omega, r.gd⟩
theorem make_depth {A : Around} {C : Addr} {us : List Value} {kw : List (Str × Value)} : (A.under (.builtin "type.__call__" ⟨.ref C :: us, kw⟩)).depth = A.depth + 1 := by
  first | rfl | simp [Around.under, Code.weight, Code.isCreation, Code.isGuard, Code.isCaller, Code.frames, Code.isFrame, guardIds]
theorem make_units {A : Around} {C : Addr} {us : List Value} {kw : List (Str × Value)} : (A.under (.builtin "type.__call__" ⟨.ref C :: us, kw⟩)).units = A.units + 1 := by
  first | rfl | simp [Around.under, Code.cUnits, Code.frames, Code.isFrame]
theorem make_guards {A : Around} {C : Addr} {us : List Value} {kw : List (Str × Value)} : (A.under (.builtin "type.__call__" ⟨.ref C :: us, kw⟩)).guards = A.guards := by
  first | rfl | (cases A; simp [Around.under, pushGuards, Code.guards, Code.isGuard, guardIds])
theorem Room.make {k : Nat} {A : Around} (r : Room (k + 1) A) (C : Addr) (us : List Value) (kw : List (Str × Value)) : Room k (A.under (.builtin "type.__call__" ⟨.ref C :: us, kw⟩)) :=
  ⟨r.hd, by have := r.dp; rw [make_depth]; omega, by have := r.un; rw [make_units]; omega, make_guards.trans r.gd⟩
theorem Room.depth {k : Nat} {A : Around} (r : Room k A) : A.depth < recursionLimit := by have := r.dp; omega
theorem Room.units {k : Nat} {A : Around} (r : Room k A) : A.units + 64 < cLine := by have := r.un; omega
/-! ### argument lists and displays -/
def tNil : TA := fun _ H Q => Q [] H
def tCons (ta : TE) (tr : TA) : TA := fun σ H Q => ta σ H fun x H1 => tr σ H1 fun xs H2 => Q (x :: xs) H2
section
variable {X : Cx} {e : Expr} {es : List Expr} {te : TE} {t : TA} {pos : Pos}
theorem pa_nil : PA X [] tNil := fun _ _ _ _ H Q I h => Calls.spliced_nil ⟨[], H, I, .nil, h⟩
theorem pa_cons (ha : PE X e te) (hr : PA X es t) (hs : starEach (e :: es) X.env = (false, eval e X.env) :: starEach es X.env := by rfl) : PA X (e :: es) (tCons te t) := by
  intro pos pins s σ H Q I h
  rw [hs]
  show wpAny _ _ (spliced ((false, eval e X.env) :: backTo pos (starEach es X.env))) _ _ s
  refine Calls.spliced_cons (thn (ha pins s σ H _ I h) fun u s1 ⟨x, H1, I1, r1, q1⟩ => ?_)
  exact thn (hr pos pins s1 σ H1 _ I1 q1) fun us s2 ⟨xs, H2, I2, r2, q2⟩ => ⟨x :: xs, H2, I2, .cons r1 r2, q2⟩

end

/-! ### what a def promises -/
/-- a def's promise: the bound arguments in the parameters' order, the heap, the wanted end, the wanted exception -/
abbrev Sp := List V → Hp → VK → XK → Prop
/-- how an exception lies behind a call (file 08 gives it): the callers' frames, abstract heap and state ahead of the call, the wish, the exception, the state -/
abbrev CXT := List Env → Hp → Shared → XK → Value → Shared → Prop

/-- the state at a call -/
structure Env0 (P : Program) (w : World) (K : PySem.W.Frag) (mg : Str → Option Value) (base : Heap) (A : Around) (outer : List Env) (s : Shared) (H : Hp) : Prop where
  frames : A.frames = some outer
  mod : Mod K mg base
  bs : ∀ b o, base.get? b = some o → s.heap.get? b = some o ∧ H b = none
  bsz : base.objs.size ≤ s.heap.objs.size
  funs : s.heap.FunFrames base outer
  frf : ∀ b ∈ frs outer, H b = none
  hok : HOk P w H s.heap
  bare : AllBare s.gens
/-- a call's end -/
def CE (outer : List Env) (P : Program) (w : World) (H : Hp) (s : Shared) (Q : VK) (u : Value) (s' : Shared) : Prop :=
  ∃ v H', s'.os = s.os ∧ AllBare s'.gens ∧ Un (frs outer) [] H H' s.heap s'.heap ∧ HOk P w H' s'.heap ∧ RelV v u ∧ Q v H'
def CR (CX : CXT) (outer : List Env) (P : Program) (w : World) (H : Hp) (s : Shared) (Q : VK) (E : XK) (r : Result) (s' : Shared) : Prop :=
  match r with
  | .ok (.ret u) => CE outer P w H s Q u s'
  | .ok _ => False
  | .error e => CX outer H s E e s'
structure FnOk (P : Program) (w : World) (K : PySem.W.Frag) (mg : Str → Option Value) (base : Heap) (CX : CXT) (k : Nat) (f : Addr) (fd : FuncData) (ps : List Str) (sp : Sp) : Prop where
  len : ∀ vs H Q E, sp vs H Q E → vs.length = ps.length
  run : ∀ (A : Around) (outer : List Env) (s : Shared) (H : Hp) (args : Args) (us : List Value) (vs : List V) (Q : VK) (E : XK), Room k A → Env0 P w K mg base A outer s H → BindsTo s fd args (ps.zip us) → Vals vs us → sp vs H Q E →
    codeAny (model P w) A (.call (.ref f) args) (CR CX outer P w H s Q E) s
theorem FnOk.mono {P : Program} {w : World} {K : PySem.W.Frag} {mg : Str → Option Value} {base : Heap} {CX : CXT} {j k : Nat} {f : Addr} {fd : FuncData} {ps : List Str} {sp : Sp} (F : FnOk P w K mg base CX j f fd ps sp) (h : j ≤ k) :
    FnOk P w K mg base CX k f fd ps sp := ⟨F.len, fun A outer s H args us vs Q E hr => F.run A outer s H args us vs Q E (hr.mono h)⟩
theorem Env0.make {P : Program} {w : World} {K : PySem.W.Frag} {mg : Str → Option Value} {base : Heap} {A : Around} {outer : List Env} {s : Shared} {H : Hp} (e : Env0 P w K mg base A outer s H) (C : Addr) (us : List Value) (kw : List (Str × Value)) :
    Env0 P w K mg base (A.under (.builtin "type.__call__" ⟨.ref C :: us, kw⟩)) outer s H := ⟨by first | exact e.frames | (simpa [Around.under, Code.envs, Code.isFrame, pushEnvs] using e.frames), e.mod, e.bs, e.bsz, e.funs, e.frf, e.hok, e.bare⟩
section
variable {X : Cx} {pins : List (Addr × Obj)} {σ : St} {H : Hp} {s s' : Shared}
/-- from a body: what a callee wants -/
theorem Inv.env0 (I : Inv X pins σ H s) : Env0 X.prog X.w X.K X.mg X.base X.A X.stack s H :=
  ⟨I.ok.frames, I.ok.mod, I.bs, Nat.le_trans I.ok.bsz I.sz, I.stack, I.stkFree, I.hok, I.bare⟩
/-- behind a call -/
theorem Inv.after {Q : VK} {u : Value} (I : Inv X pins σ H s) (h : CE X.stack X.prog X.w H s Q u s') : EP X pins σ Q u s' := by
  obtain ⟨v, H', os, bare, un, hok, r, q⟩ := h
  obtain ⟨hh, g, d, t, os'⟩ := s'
  obtain rfl : os' = s.os := os
  exact ⟨v, H', I.call (h' := hh) (g' := g) (d' := d) (t' := t) (ch := []) un hok bare (fun b z => absurd z (by simp)), r, q⟩
end

/-! ### calls -/
/-- f(..): the written arguments, then the defaults dvs; E: what is wanted of an exception -/
def tCall (sp : Sp) (dvs : List V) (E : XK) (t : TA) : TE := fun σ H Q => t σ H fun vs H1 => sp (vs ++ dvs) H1 Q E
/-- how the parameters are bound: us the positional arguments, kw the keywords' values by name, ds the defaults that fill up -/
def Binds (K : PySem.W.Frag) (fd : FuncData) (ps : List Str) (ds : List Value) : Prop :=
  ∀ (s : Shared) (us : List Value), K.In s.heap → (us ++ ds).length = ps.length → BindsTo s fd ⟨us, []⟩ (ps.zip (us ++ ds))
/-- every parameter is given -/
theorem Binds.all {K : PySem.W.Frag} {fd : FuncData} {ps : List Str} (h : ∀ us : List Value, us.length = ps.length → bindArgs fd ⟨us, []⟩ = pure (ps.zip us)) : Binds K fd ps [] := fun s us _ hl => by
  rw [List.append_nil] at hl ⊢
  exact .of_eq (h us hl)

/-- an exception of a callee reaches what this body wants of exceptions -/
def Passes (CX : CXT) (X : Cx) (E : XK) : Prop := ∀ (pins : List (Addr × Obj)) (σ : St) (H : Hp) (s : Shared) (e : Value) (s' : Shared), Inv X pins σ H s → CX X.stack H s E e s' → X.xe e s'

section
variable {X : Cx} {CX : CXT} {k : Nat} {f C : Addr} {fd : FuncData} {ps : List Str} {sp : Sp} {dvs : List V} {ds : List Value} {E : XK} {x m : Str} {p pos apos : Pos} {e o : Expr} {es : List Expr} {ta : TE} {t : TA}

/-- the callee runs -/
theorem run_fn {pins : List (Addr × Obj)} {σ : St} {H : Hp} {s : Shared} {Q : VK} {us : List Value} {vs : List V} (F : FnOk X.prog X.w X.K X.mg X.base CX k f fd ps sp) (hr : Room k X.A) (hb : Binds X.K fd ps ds) (hd : Vals dvs ds) (hx : Passes CX X E)
    (I : Inv X pins σ H s) (r : Vals vs us) (h : sp (vs ++ dvs) H Q E) : wpAny (model X.prog X.w) X.A (call (.ref f) us) (EP X pins σ Q) X.xe s := by
  have r2 : Vals (vs ++ dvs) (us ++ ds) := r.append hd
  have hl : (us ++ ds).length = ps.length := by rw [← r2.length]; exact F.len _ _ _ _ h
  refine wpAny_call (codeAny_mono (F.run X.A X.stack s H ⟨us, []⟩ (us ++ ds) (vs ++ dvs) Q E hr I.env0 (hb s us I.kIn hl) r2 h) fun r s' hq => ?_)
  cases r with
  | error e => exact hx pins σ H s e s' I hq
  | ok fl =>
    cases fl with
    | ret u => exact I.after hq
    | next => exact False.elim hq
    | brk => exact False.elim hq
    | cont => exact False.elim hq

theorem pe_call (F : FnOk X.prog X.w X.K X.mg X.base CX k f fd ps sp) (hr : Room k X.A) (hg : Gl X x) (hm : X.mg x = some (.ref f)) (hk : PySem.W.keepIn X.K (.ref f) = true) (hb : Binds X.K fd ps ds) (hd : Vals dvs ds) (hx : Passes CX X E)
    (ha : PA X (e :: es) t) (hdb : (x == ("__debug__" : Str)) = false := by decide) (he : starEach (e :: es) X.env = (false, eval e X.env) :: starEach es X.env := by rfl) (hpl : (backTo pos (starEach es X.env)).any (·.1) = false := by rfl) :
    PE X (.Call (.Name x p) (e :: es) [] pos) (tCall sp dvs E t) := by
  intro pins s σ H Q I h
  refine wpAny_Call_Name_kw (ld_glob I hg hm ?_ hdb)
  refine PySem.W.callWith_K (h₀ := X.base) I.ok.mod.kin hk (thn (ha pos pins s σ H _ I h) fun us s1 ⟨vs, H1, I1, r, q⟩ => ⟨I1.kIn, ?_⟩) he hpl
  exact run_fn F hr hb hd hx I1 r q
end

/-! ### keywords -/
section
variable {X : Cx} {CX : CXT} {k : Nat} {f C : Addr} {fd : FuncData} {ps ks : List Str} {sp : Sp} {E : XK} {x m : Str} {p pos apos kpos : Pos} {e o : Expr} {es : List Expr} {kws : List Keyword} {te ta : TE} {t tk : TA} {nm : Option Str}
variable {g : List Value → List Value → List Value} {gV : List V → List V → List V}
end

/-! ### a def's body keeps its promise -/
/-- names: the parameters first -/
structure FnScope (N P : List Str) (sc : Scope) : Prop where
  kind : sc.kind = .function
  co : sc.isCoroutine = false
  gen : sc.isGenerator = false
  nd : N.Nodup
  pre : N.take P.length = P
  par : ∀ x ∈ P, sc.names.lookup x = some .local ∨ sc.names.lookup x = some .cell
  nofree : ∀ y ∈ sc.names, y.2 ≠ .free

theorem bindL_out {kindOf : Str → Option NameKind} {x : Str} : ∀ {binds : List (Str × Value)} {m : Str → Option Value}, (∀ v, (x, v) ∉ binds) → bindL kindOf binds m x = m x
  | [], _, _ => rfl
  | (n, v) :: r, m, h => by
    unfold bindL
    rw [bindL_out fun w hw => h w (List.mem_cons_of_mem _ hw)]
    split
    · have : x ≠ n := by rintro rfl; exact h v List.mem_cons_self
      simp [this]
    · rfl
theorem bindC_out {kindOf : Str → Option NameKind} {x : Str} : ∀ {binds : List (Str × Value)} {m : Str → Option Value}, (∀ v, (x, v) ∉ binds) → bindC kindOf binds m x = m x
  | [], _, _ => rfl
  | (n, v) :: r, m, h => by
    unfold bindC
    rw [bindC_out fun w hw => h w (List.mem_cons_of_mem _ hw)]
    split
    · rfl
    · have : x ≠ n := by rintro rfl; exact h v List.mem_cons_self
      simp [this]
theorem bindL_get {kindOf : Str → Option NameKind} {x : Str} {v : Value} : ∀ {P : List Str} {vs : List Value} {i : Nat} {m : Str → Option Value}, P.Nodup → P[i]? = some x → vs[i]? = some v → kindOf x = some .local →
    bindL kindOf (P.zip vs) m x = some v
  | [], _, _, _, _, h, _, _ => by simp at h
  | _ :: _, [], _, _, _, _, h, _ => by simp at h
  | p :: P, w :: vs, 0, m, nd, h1, h2, hk => by
    simp at h1 h2; subst h1; subst h2
    show bindL kindOf ((p, w) :: P.zip vs) m p = _
    unfold bindL
    rw [bindL_out fun v hv => (List.nodup_cons.mp nd).1 (List.of_mem_zip hv).1, if_pos hk]
    simp
  | p :: P, w :: vs, i + 1, m, nd, h1, h2, hk => by
    show bindL kindOf ((p, w) :: P.zip vs) m x = _
    unfold bindL
    exact bindL_get (i := i) (List.nodup_cons.mp nd).2 (by simpa using h1) (by simpa using h2) hk
theorem bindC_get {kindOf : Str → Option NameKind} {x : Str} {v : Value} : ∀ {P : List Str} {vs : List Value} {i : Nat} {m : Str → Option Value}, P.Nodup → P[i]? = some x → vs[i]? = some v → kindOf x ≠ some .local →
    bindC kindOf (P.zip vs) m x = some v
  | [], _, _, _, _, h, _, _ => by simp at h
  | _ :: _, [], _, _, _, _, h, _ => by simp at h
  | p :: P, w :: vs, 0, m, nd, h1, h2, hk => by
    simp at h1 h2; subst h1; subst h2
    show bindC kindOf ((p, w) :: P.zip vs) m p = _
    unfold bindC
    rw [bindC_out fun v hv => (List.nodup_cons.mp nd).1 (List.of_mem_zip hv).1, if_neg hk]
    simp
  | p :: P, w :: vs, i + 1, m, nd, h1, h2, hk => by
    show bindC kindOf ((p, w) :: P.zip vs) m x = _
    unfold bindC
    exact bindC_get (i := i) (List.nodup_cons.mp nd).2 (by simpa using h1) (by simpa using h2) hk

/-- the names' values at the entry -/
def start (N : List Str) (vs : List V) : St := vs.map some ++ List.replicate (N.length - vs.length) none

/-- the context of a def's body, at its entry; an exception leaves the frame, then lies as CX says -/
noncomputable def cxOf (CX : CXT) (P : Program) (w : World) (K : PySem.W.Frag) (mg : Str → Option Value) (base : Heap) (N : List Str) (qual : Str) (scope : Scope) (f : Addr) (cd : Value) (A : Around) (outer : List Env) (s : Shared) (H : Hp) (E : XK) : Cx where
  prog := P
  w := w
  K := K
  mg := mg
  base := base
  A := A.deeper (envOfC qual scope s.heap.objs.size f cd)
  N := N
  s₀ := s
  H₀ := H
  env := envOfC qual scope s.heap.objs.size f cd
  outer := outer
  stack := envOfC qual scope s.heap.objs.size f cd :: outer
  ex := []
  calm := true
  fn := fun _ => true
  pn := []
  xe := fun e s' => wpAny (model P w) (A.deeper (envOfC qual scope s.heap.objs.size f cd)) (leaving (envOfC qual scope s.heap.objs.size f cd) e) (fun _ s'' => CX outer H s E e s'') (fun e' s'' => CX outer H s E e' s'') s'

theorem cell_has {sc : Scope} {n : Nat} {x : Str} (h : sc.names.lookup x = some .cell) : ∃ c, (cellsFrom n sc.names []).lookup x = some c := by
  have q := PySem.W.cellsFrom_some sc.names n [] (.inl h)
  exact Option.isSome_iff_exists.mp q

theorem inv_start {CX : CXT} {P : Program} {w : World} {K : PySem.W.Frag} {mg : Str → Option Value} {base : Heap} {N ps : List Str} {qual : Str} {scope : Scope} {f : Addr} {cd : Value} {A : Around} {outer : List Env} {s s1 : Shared} {H : Hp} {E : XK} {us : List Value} {vs : List V}
    (S : FnScope N ps scope) (hd : A.handled = none) (e0 : Env0 P w K mg base A outer s H) (hl : vs.length = ps.length) (r : Vals vs us)
    (x : InCallC s s.heap.objs.size (bindL (envOfC qual scope s.heap.objs.size f cd).kindOf (ps.zip us) fun _ => none) (cellsFrom (s.heap.objs.size + 1) scope.names []) (bindC (envOfC qual scope s.heap.objs.size f cd).kindOf (ps.zip us) fun _ => none) s1) :
    Inv (cxOf CX P w K mg base N qual scope f cd A outer s H E) [] (start N vs) H s1 := by
  have hpl : ps.length ≤ N.length := by have := congrArg List.length S.pre; rw [List.length_take] at this; omega
  obtain ⟨h1, tk, rfl, hk⟩ := x.done
  have noA : ∀ b : Addr, b ∉ (cxOf CX P w K mg base N qual scope f cd A outer s H E).ex := fun b z => absurd (show b ∈ ([] : List Addr) from z) (by simp)
  refine ⟨⟨e0.mod, S.kind, rfl, rfl, Nat.le_refl _, fun y z c h1 h2 => ?_, fun y hy => ?_, fun y c _ h => ?_, fun _ => hd, Around.frames_deeper e0.frames, .inr ⟨rfl, rfl⟩, fun b z => absurd z (noA b), e0.bs, e0.bsz, fun b _ _ => noA b, fun b z => absurd z (noA b), e0.funs, e0.frf⟩,
    rfl, e0.bare, Un.kept hk, ⟨_, x.toInCall.ns, fun i y v h1 h2 h3 => ?_⟩, fun y c h => ⟨_, x.cell y c h⟩, e0.hok.fresh (Nat.le_refl _), fun y c h => ?_, fun p hp => absurd (show p ∈ ([] : List (Addr × Obj)) from hp) (by simp), e0.hok.kept hk, ?_⟩
  · exact name_of_addr x.apart (PySem.mem_of_lookup h1) (PySem.mem_of_lookup h2)
  · have hy : scope.names.lookup y = some .cell ∨ scope.names.lookup y = some .free := hy
    rcases hy with hy | hy
    · exact cell_has hy
    · exact absurd rfl (S.nofree _ (PySem.mem_of_lookup hy))
  · exact Nat.le_of_lt (x.above y c (PySem.mem_of_lookup h))
  · have hi : i < vs.length := by
      unfold start at h2
      by_cases hi : i < vs.length
      · exact hi
      · rw [List.getElem?_append_right (by simpa using hi)] at h2
        rw [List.getElem?_replicate] at h2
        split at h2 <;> cases h2
    have ha : vs[i]? = some v := by
      unfold start at h2
      rw [List.getElem?_append_left (by simpa using hi), List.getElem?_map] at h2
      cases e : vs[i]? with
      | none => rw [e] at h2; cases h2
      | some a => rw [e] at h2; cases h2; rfl
    obtain ⟨u, hu, rv⟩ := r.get ha
    have hp : ps[i]? = some y := by
      rw [← S.pre, List.getElem?_take_of_lt (by omega)]; exact h1
    have ndP : ps.Nodup := by rw [← S.pre]; exact S.nd.sublist (List.take_sublist _ _)
    refine ⟨u, rv, ?_⟩
    rcases S.par y (List.mem_of_getElem? hp) with k | k
    · exact .inl ⟨k, bindL_get ndP hp hu k⟩
    · obtain ⟨c, e⟩ := cell_has (n := s.heap.objs.size + 1) k
      refine .inr ⟨.inl k, c, e, ?_⟩
      have q := x.cell y c e
      rw [bindC_get ndP hp hu (by show scope.names.lookup y ≠ _; rw [k]; decide)] at q
      exact q
  · exact e0.hok.fresh (Nat.le_of_lt (x.above y c (PySem.mem_of_lookup h)))
  · unfold start
    show _ = N.length
    rw [List.length_append, List.length_map, List.length_replicate]
    omega

/-- THE RULE: a def (or a method) of the text, by its body. The body's reading t is chosen for each entry; it is run at the parameters' values -/
theorem fn_of {CX : CXT} {P : Program} {w : World} {K : PySem.W.Frag} {mg : Str → Option Value} {base : Heap} {k : Nat} {f : Addr} {name qual : Str} {params : Arguments} {body : List Stmt} {scope : Scope} {dV kV doc pm cdv ct oc : Value} {an od : Option Addr}
    {osl : Array (Option Value)} {N ps : List Str} {sp : Sp} (lk : K.lookup f = some ⟨oc, od, .func (PySem.W.fnOf name qual params body scope dV kV doc pm an cdv ct), osl⟩) (hcd : PySem.W.codeIn K cdv qual = true) (S : FnScope N ps scope)
    (len : ∀ vs H Q E, sp vs H Q E → vs.length = ps.length)
    (hbody : ∀ (A : Around) (outer : List Env) (s : Shared) (H : Hp) (vs : List V) (Q : VK) (E : XK), Room k (A.deeper (envOfC qual scope s.heap.objs.size f cdv)) → sp vs H Q E →
      ∃ t, PSs (cxOf CX P w K mg base N qual scope f cdv A outer s H E) body t ∧ t { nx := fun _ H' => Q .non H', rt := Q } (start N vs) H) :
    FnOk P w K mg base CX (k + 1) f (PySem.W.fnOf name qual params body scope dV kV doc pm an cdv ct) ps sp := by
  refine ⟨len, fun A outer s H args us vs Q E hr e0 hb r hsp => ?_⟩
  have hl := len _ _ _ _ hsp
  have KX : K.In s.heap := e0.mod.kin.keeps fun b o e => (e0.bs b o e).1
  have lim : s.heap.NoLimit := e0.mod.nolimit.keeps fun b o e => (e0.bs b o e).1
  have hkind : ∀ y ∈ ps.zip us, scope.names.lookup y.1 = some .local ∨ (scope.names.lookup y.1 = some .cell ∧ ((cellsFrom (s.heap.objs.size + 1) scope.names []).lookup y.1).isSome = true) := fun ⟨n, v⟩ hy => by
    rcases S.par n (List.of_mem_zip hy).1 with q | q
    · exact .inl q
    · exact .inr ⟨q, PySem.W.cellsFrom_some _ _ _ (.inl q)⟩
  refine codeAny_call_function hr.depth (KX _ _ lk) rfl S.co S.gen rfl (PySem.W.codeRec_of KX hcd) (hb _ _ _ _ ?_)
  refine wpAny_newFunctionEnv_cells S.kind hkind fun env he s1 x => ?_
  subst he
  refine ⟨lim.keeps x.toInCall.keep, codeAny_func ?_⟩
  obtain ⟨t, ht, hq⟩ := hbody A outer s H vs Q E (hr.deeper _) hsp
  have I : Inv (cxOf CX P w K mg base N qual scope f cdv A outer s H E) [] (start N vs) H s1 := inv_start S hr.hd e0 hl r x
  refine wpAny_mono (ht [] s1 (start N vs) H _ I hq) (fun fl s' hs => ?_) fun e s' hs => hs
  have fin : ∀ {σ' : St} {H' : Hp} {v : V} {u : Value}, Inv (cxOf CX P w K mg base N qual scope f cdv A outer s H E) [] σ' H' s' → RelV v u → Q v H' → CE outer P w H s Q u s' :=
    fun {σ' H' v u} J rv q => ⟨v, H', J.os, J.bare, J.base, J.hok, rv, q⟩
  cases fl with
  | ret u =>
    obtain ⟨v, σ', H', J, rv, q⟩ := hs
    exact fin J rv q
  | next =>
    obtain ⟨σ', H', J, q⟩ := hs
    exact fin (v := V.non) (u := Value.none) J rfl q
  | brk =>
    obtain ⟨_, _, _, q⟩ := hs
    exact False.elim q
  | cont =>
    obtain ⟨_, _, _, q⟩ := hs
    exact False.elim q
end L2

namespace L2
open PySem PySem.Spec PyProof.Rows
section
variable {X : Cx} {x : Str} {p pos : Pos} {e : Expr} {es : List Expr} {t : TA} {id T : String} {r : List V → Hp → VK → Prop}

def tCB (r : List V → Hp → VK → Prop) (t : TA) : TE := fun σ H Q => t σ H fun vs H1 => r vs H1 Q
/-- f(e, ..), f a built-in function -/
theorem pe_callB (hc : CallR X (.builtin id) r) (hg : Gl X x) (hm : X.mg x = none) (hv : bootBuiltins x = some (.builtin id)) (ha : PA X (e :: es) t) (hn : x ≠ "__name__" := by decide) (hdb : (x == ("__debug__" : Str)) = false := by decide)
    (he : starEach (e :: es) X.env = (false, eval e X.env) :: starEach es X.env := by rfl) (hpl : (backTo pos (starEach es X.env)).any (·.1) = false := by rfl) : PE X (.Call (.Name x p) (e :: es) [] pos) (tCB r t) := by
  intro pins s σ H Q I h
  refine wpAny_Call_Name_kw (ld_blt I hg hm hv ?_ hn hdb)
  exact PyProof.Rows.callWith_builtin1 (thn (ha pos pins s σ H _ I h) fun us s1 ⟨vs, H1, I1, r1, q1⟩ => hc pins s1 σ H1 vs us Q I1 r1 q1) he hpl
/-- T(e, ..), T a built-in type -/
theorem pe_callTy (hc : CallR X (.type T) r) (hg : Gl X x) (hm : X.mg x = none) (hv : bootBuiltins x = some (.type T)) (ha : PA X (e :: es) t) (hn : x ≠ "__name__" := by decide) (hdb : (x == ("__debug__" : Str)) = false := by decide)
    (he : starEach (e :: es) X.env = (false, eval e X.env) :: starEach es X.env := by rfl) (hpl : (backTo pos (starEach es X.env)).any (·.1) = false := by rfl) : PE X (.Call (.Name x p) (e :: es) [] pos) (tCB r t) := by
  intro pins s σ H Q I h
  refine wpAny_Call_Name_kw (ld_blt I hg hm hv ?_ hn hdb)
  exact PyProof.Rows.callWith_type1 (thn (ha pos pins s σ H _ I h) fun us s1 ⟨vs, H1, I1, r1, q1⟩ => hc pins s1 σ H1 vs us Q I1 r1 q1) he hpl
end
end L2

namespace HT
open PySem PyProof.Rows

section
open PySem.SeqAt
open PySem.AutoSeq1 (wpAny_loadPart')
open PySem.MeetsSeq PySem.MeetsSeq2 PySem.MeetsSeq3

end

section
variable {prog : Program} {w : World} {A : Around} {E : Value → Shared → Prop} {s : Shared}

/-! ### t[a:b], not the whole -/
/-- a slice's bound as a place among n (d where it is left out) -/
def sIx (n d : Nat) : Option Int → Nat
  | none => d
  | some v => if v < 0 then (v + (n : Int)).toNat else min v.toNat n
theorem sIx_le (n d : Nat) (hd : d ≤ n) (o : Option Int) : sIx n d o ≤ n := by
  cases o with
  | none => exact hd
  | some v =>
    show (if v < 0 then (v + (n : Int)).toNat else min v.toNat n) ≤ n
    by_cases hv : v < 0
    · rw [if_pos hv]; omega
    · rw [if_neg hv]; exact Nat.min_le_right _ _
theorem clip_eq (v : Int) (n d : Nat) : (if v < 0 then max (v + (n : Int)) 0 else min v (n : Int)) = ((sIx n d (some v) : Nat) : Int) := by
  show (if v < 0 then max (v + (n : Int)) 0 else min v (n : Int)) = (((if v < 0 then (v + (n : Int)).toNat else min v.toNat n) : Nat) : Int)
  by_cases hv : v < 0
  · simp only [if_pos hv]; omega
  · simp only [if_neg hv]; omega
theorem adjust_gen (lo hi : Option Int) (n : Nat) : Builtin.Slice.sliceAdjust lo hi 1 (n : Int) = (((sIx n 0 lo : Nat) : Int), ((sIx n n hi : Nat) : Int)) := by
  have h1 : ¬ ((1 : Int) < 0) := by omega
  unfold Builtin.Slice.sliceAdjust
  simp only [h1, if_false]
  refine Prod.ext ?_ ?_
  · cases lo with
    | none => rfl
    | some v => exact clip_eq v n 0
  · cases hi with
    | none => rfl
    | some v => exact clip_eq v n n
theorem places_gen (i j : Nat) : Builtin.Slice.slicePlaces (i : Int) (j : Int) 1 = j - i := by
  unfold Builtin.Slice.slicePlaces
  have h1 : (1 : Int) > 0 := by omega
  simp only [h1, if_true, Int.ediv_one]
  split <;> omega
theorem slicePart_ {v : Value} {o : Option Int} {Q : Option Int → Shared → Prop} (p : IsPart v o) (h : Q o s) : wpAny (model prog w) A (Builtin.Slice.slicePartIndex v) Q E s := by
  cases p with
  | none => exact slicePart_none h
  | int i t => exact slicePart_int h
theorem sliceApplied_gen {sl : Addr} {vl vu : Value} {lo hi : Option Int} {n : Nat} {Q : Int × Int × Nat → Shared → Prop} (hs : s.heap.IsSliceOf sl vl vu .none) (pl : IsPart vl lo) (pu : IsPart vu hi)
    (h : Q (((sIx n 0 lo : Nat) : Int), 1, sIx n n hi - sIx n 0 lo) s) : wpAny (model prog w) A (Builtin.Slice.sliceApplied (.ref sl) (pure (n : Int))) Q E s := by
  obtain ⟨os, hos, hcs, hds⟩ := id hs
  unfold Builtin.Slice.sliceApplied Builtin.Slice.sliceFields
  refine wpAny_bind (wpAny_bind (wpAny_field hos hds (x := vl) rfl (wpAny_bind (wpAny_field hos hds (x := vu) rfl (wpAny_bind (wpAny_field hos hds (x := .none) rfl (wpAny_pure ?_)))))))
  refine wpAny_bind (slicePart_none ?_)
  show wpAny _ _ (if ((1 : Int) == 0) = true then _ else _) _ _ s
  rw [if_neg (by decide)]
  refine wpAny_bind (slicePart_ pl (wpAny_bind (slicePart_ pu (wpAny_bind (wpAny_pure ?_)))))
  show wpAny _ _ (match Builtin.Slice.sliceAdjust lo hi 1 (n : Int) with | (lo, hi) => pure (lo, (1 : Int), Builtin.Slice.slicePlaces lo hi 1)) _ _ s
  rw [adjust_gen lo hi n]
  show wpAny _ _ (pure (((sIx n 0 lo : Nat) : Int), (1 : Int), Builtin.Slice.slicePlaces ((sIx n 0 lo : Nat) : Int) ((sIx n n hi : Nat) : Int) 1)) _ _ s
  rw [places_gen]
  exact wpAny_pure h
theorem pick_gen (xs : Array Value) (i k : Nat) : ((List.range k).filterMap fun (m : Nat) => xs[((i : Int) + (m : Int) * 1).toNat]?).toArray = ((xs.toList.drop i).take k).toArray := by
  have e : (fun (m : Nat) => xs[((i : Int) + (m : Int) * 1).toNat]?) = fun m => xs[i + m]? := by
    funext m
    have : ((i : Int) + (m : Int) * 1).toNat = i + m := by omega
    rw [this]
  rw [e]
  have := pick_run xs i k
  rw [List.filterMap_map] at this
  have e2 : ((fun x => xs[x]?) ∘ fun x => i + x) = fun m => xs[i + m]? := rfl
  rw [e2] at this
  rw [this]

theorem getItem_tuple_cut {t sl : Addr} {items : Array Value} {vl vu : Value} {lo hi : Option Int} {Q : Value → Shared → Prop} (ht : IsTup s.heap t items) (hs : s.heap.IsSliceOf sl vl vu .none) (pl : IsPart vl lo) (pu : IsPart vu hi)
    (hw : ¬ (sIx items.size 0 lo = 0 ∧ sIx items.size items.size hi = items.size))
    (h : Q (.ref s.heap.objs.size) { s with heap := s.heap.push { cls := .type "tuple", data := .seq ((items.toList.drop (sIx items.size 0 lo)).take (sIx items.size items.size hi - sIx items.size 0 lo)).toArray } })
    (hsz : items.size ≤ sizeLine) : wpAny (model prog w) A (getItem (.ref t) (.ref sl)) Q E s := by
  have htake : sizeOk (.seq ((items.toList.drop (sIx items.size 0 lo)).take (sIx items.size items.size hi - sIx items.size 0 lo)).toArray) := by
    show ((items.toList.drop (sIx items.size 0 lo)).take (sIx items.size items.size hi - sIx items.size 0 lo)).toArray.size ≤ sizeLine
    rw [List.size_toArray, List.length_take, List.length_drop, Array.length_toList]
    omega
  have hj : sIx items.size items.size hi ≤ items.size := sIx_le _ _ (Nat.le_refl _) hi
  obtain ⟨os, hos, hcs, hds⟩ := id hs
  have hTs : s.TypeIs (.ref sl) "slice" := ⟨os, hos, hcs⟩
  unfold getItem
  try with_reducible refine wpAny_holding ?_
  first | refine wpAny_bind (wpAny_pure ?_) | skip
  refine wpAny_bind (wpAny_sequenceKey ht.typeIs (by decide) ?_)
  refine wpAny_bind (wpAny_callSpecial?_slot (name := Str.ofString "__getitem__") ht.typeIs PyProof.Rows.slot_tuple_getitem
    (wpAny_call_entry PyProof.Rows.slot_tuple_getitem ht.typeIs entry_tuple_getitem ?_ (args_tuple_getitem _ _)))
  show wpAny _ _ (Builtin.Tuple.tupleItemsOf (.ref t) >>= _) _ _ s
  refine wpAny_bind (tupleItemsOf_ ht ?_)
  refine wpAny_bind (wpAny_typeOf hTs ?_)
  rw [if_pos (by decide)]
  refine wpAny_bind (sliceApplied_gen hs pl pu ?_)
  have hno : ¬ ((((sIx items.size 0 lo : Nat) : Int) == 0 && (1 : Int) == 1 && (sIx items.size items.size hi - sIx items.size 0 lo) == items.size) = true) := by
    intro q
    rw [Bool.and_eq_true, Bool.and_eq_true] at q
    have q1 : ((sIx items.size 0 lo : Nat) : Int) = 0 := eq_of_beq q.1.1
    have q2 : sIx items.size items.size hi - sIx items.size 0 lo = items.size := eq_of_beq q.2
    exact hw ⟨by omega, by omega⟩
  show wpAny _ _ (if (((sIx items.size 0 lo : Nat) : Int) == 0 && (1 : Int) == 1 && (sIx items.size items.size hi - sIx items.size 0 lo) == items.size) = true then _ else _) _ _ s
  rw [if_neg hno, pick_gen]
  first
    | exact wpAny_bind (m := Builtin.Tuple.tupleExact _) (wpAny_newObj_type (wpAny_pure ⟨_, rfl, wpAny_pure h⟩) htake)
    | exact wpAny_bind (m := Builtin.Tuple.tupleExact _) (wpAny_newObj_type (wpAny_bind (wpAny_pure (wpAny_pure ⟨_, rfl, wpAny_pure h⟩))) htake)
    | exact wpAny_bind (wpAny_bind (m := Builtin.Tuple.tupleExact _) (wpAny_newObj_type (wpAny_pure (wpAny_pure ⟨_, rfl, wpAny_pure h⟩)) htake))
    | exact wpAny_bind (wpAny_bind (m := Builtin.Tuple.tupleExact _) (wpAny_newObj_type (wpAny_pure ⟨_, rfl, wpAny_pure h⟩) htake))
end
end HT

namespace L2
open PySem PySem.Spec PyProof.Rows

/-! ### the parts of a slice -/
abbrev TO := St → Hp → (Option Int → Hp → Prop) → Prop
/-- a slice's part (left out, or an int) -/
def PO (X : Cx) (e : Option Expr) (t : TO) : Prop :=
  ∀ (pins : List (Addr × Obj)) (s : Shared) (σ : St) (H : Hp) (Q : Option Int → Hp → Prop), Inv X pins σ H s → t σ H Q →
    wpAny (model X.prog X.w) X.A (evalPart e X.env) (fun u s' => ∃ o H', Inv X pins σ H' s' ∧ IsPart u o ∧ Q o H') X.xe s
def tNoPart : TO := fun _ H Q => Q none H
section
variable {X : Cx} {e : Expr} {te : TE} {lo hi : Option Expr} {tl th : TO} {pos p2 : Pos}

theorem po_none : PO X none tNoPart := by
  intro pins s σ H Q I h
  rw [evalPart_none]
  exact wpAny_pure ⟨none, H, I, .none, h⟩
/-- what a slice of a value is, by values: the slice object stands at sl -/
noncomputable def SlR (X : Cx) (r : V → Option Int → Option Int → Hp → VK → Prop) : Prop :=
  ∀ (pins : List (Addr × Obj)) (s : Shared) (σ : St) (H : Hp) (x : V) (v vl vu : Value) (lo hi : Option Int) (sl : Addr) (Q : VK), Inv X pins σ H s → RelV x v → s.heap.IsSliceOf sl vl vu .none → IsPart vl lo → IsPart vu hi → r x lo hi H Q →
    ∃ T id, typeLookup (.type T) "__getitem__" = pure (some (.builtin id)) ∧ s.TypeIs v T ∧ wpAny (model X.prog X.w) X.A (getItem v (.ref sl)) (EP X pins σ Q) X.xe s
theorem SlR.or {r r' : V → Option Int → Option Int → Hp → VK → Prop} (h : SlR X r) (h' : SlR X r') : SlR X (fun x lo hi H Q => r x lo hi H Q ∨ r' x lo hi H Q) := by
  intro pins s σ H x v vl vu lo hi sl Q I rx hs pl pu q
  rcases q with q | q
  · exact h pins s σ H x v vl vu lo hi sl Q I rx hs pl pu q
  · exact h' pins s σ H x v vl vu lo hi sl Q I rx hs pl pu q
def tSl (r : V → Option Int → Option Int → Hp → VK → Prop) (te : TE) (tl th : TO) : TE := fun σ H Q => te σ H fun x H1 => tl σ H1 fun l H2 => th σ H2 fun u H3 => r x l u H3 Q
/-- a[lo:hi], any a -/
theorem pe_slice {r : V → Option Int → Option Int → Hp → VK → Prop} (hr : SlR X r) (he : PE X e te) (hl : PO X lo tl) (hu : PO X hi th) : PE X (.Subscript e (.Slice lo hi none p2) pos) (tSl r te tl th) := by
  intro pins s σ H Q I h
  refine Subscript_ (thn (he pins s σ H _ I h) fun v s1 ⟨x, H1, I1, r1, q1⟩ => ?_)
  refine wpAny_Slice (thn (hl pins s1 σ H1 _ I1 q1) fun vl s2 ⟨l, H2, I2, pl, q2⟩ => thn (hu pins s2 σ H2 _ I2 q2) fun vu s3 ⟨u, H3, I3, pu, q3⟩ => ?_)
  rw [evalPart_none]
  refine wpAny_pure ?_
  have I4 : Inv X pins σ H3 { s3 with heap := s3.heap.push { cls := .type "slice", data := .fields #[vl, vu, .none] } } := I3.kept (t' := s3.toks) fun b ob q => Heap.get?_push_of_some _ q
  obtain ⟨T, id, hT, ht, hg⟩ := hr pins { s3 with heap := s3.heap.push { cls := .type "slice", data := .fields #[vl, vu, .none] } } σ H3 x v vl vu l u s3.heap.objs.size Q I4 r1 (Heap.IsSliceOf.new ..) pl pu q3
  show wpAny (model X.prog X.w) X.A (subscriptTail e (.Slice lo hi none p2) v (.ref s3.heap.objs.size)) (EP X pins σ Q) X.xe { s3 with heap := s3.heap.push { cls := .type "slice", data := .fields #[vl, vu, .none] } }
  exact tail_any (ops := [.ref s3.heap.objs.size, v]) ht hT hg (by with_unfolding_all rfl)

/-- the items of xs[lo:hi] -/
def cutV (xs : List V) (lo hi : Option Int) : List V := (xs.drop (HT.sIx xs.length 0 lo)).take (HT.sIx xs.length xs.length hi - HT.sIx xs.length 0 lo)
theorem cutV_length (xs : List V) (lo hi : Option Int) : (cutV xs lo hi).length ≤ xs.length := by
  unfold cutV
  rw [List.length_take, List.length_drop]
  omega
/-- t[lo:hi], not the whole of it (the whole would be t itself) -/
def rSlT (K : PySem.W.Frag) : V → Option Int → Option Int → Hp → VK → Prop := fun x lo hi H Q => ∃ a xs, x = .ref a ∧ SqT K H a xs ∧
  ¬ (HT.sIx xs.length 0 lo = 0 ∧ HT.sIx xs.length xs.length hi = xs.length) ∧ ∀ p, H p = none → Q (.ref p) (upd H p (.tup (cutV xs lo hi)))
theorem sl_tup : SlR X (rSlT X.K) := by
  intro pins s σ H x v vl vu lo hi sl Q I rx hs pl pu h
  obtain ⟨a, xs, rfl, hx, hw, q⟩ := h
  cases rx
  obtain ⟨its, r, ht, hz⟩ := I.tuple hx
  have hlen : its.toArray.size = xs.length := by rw [List.size_toArray]; exact r.length.symm
  refine ⟨"tuple", _, PyProof.Rows.slot_tuple_getitem.lookup, ht.typeIs, ?_⟩
  refine HT.getItem_tuple_cut ht hs pl pu (by rw [hlen]; exact hw) ?_ (by rw [hlen]; exact hz)
  rw [hlen]
  refine ⟨.ref s.heap.objs.size, _, I.laid (t' := s.toks) (o := .tup (cutV xs lo hi)) (fun b ob q => Heap.get?_push_of_some _ q) (Nat.le_refl _) ?_, rfl, q _ (I.hok.fresh (Nat.le_refl _))⟩
  exact ⟨Nat.le_trans (cutV_length xs lo hi) hz, _, (r.drop (HT.sIx xs.length 0 lo)).take (HT.sIx xs.length xs.length hi - HT.sIx xs.length 0 lo), IsTup.new _ _⟩

/-! ### t < u, t + u -/
end
end L2

namespace L2
open PySem PySem.Spec PyProof.Rows

/-! ### places -/
/-- the place that an index of any sign means -/
def ixN (n : Nat) (i : Int) : Option Nat := if 0 ≤ i then (if i < n then some i.toNat else none) else if -(n : Int) ≤ i then some (i + n).toNat else none
def atI {α : Type} (xs : List α) (i : Int) : Option α := (ixN xs.length i).bind fun j => xs[j]?
theorem ixN_seq {n : Nat} {i : Int} {j : Nat} (h : ixN n i = some j) : seqIndex? i n = some j ∧ j < n ∧ -(n : Int) ≤ i ∧ i < n := by
  unfold ixN at h
  by_cases h0 : 0 ≤ i
  · rw [if_pos h0] at h
    by_cases h1 : i < n
    · rw [if_pos h1] at h
      have e : i.toNat = j := Option.some.inj h
      exact ⟨by rw [seqIndex_of h0 h1, e], by omega, by omega, h1⟩
    · rw [if_neg h1] at h; cases h
  · rw [if_neg h0] at h
    by_cases h1 : -(n : Int) ≤ i
    · rw [if_pos h1] at h
      have e : (i + n).toNat = j := Option.some.inj h
      exact ⟨by rw [seqIndex_neg (by omega) h1, e], by omega, h1, by omega⟩
    · rw [if_neg h1] at h; cases h
theorem atI_get {α : Type} {xs : List α} {i : Int} {v : α} (h : atI xs i = some v) : ∃ j, seqIndex? i xs.length = some j ∧ xs[j]? = some v ∧ j < xs.length ∧ -(xs.length : Int) ≤ i ∧ i < xs.length := by
  unfold atI at h
  cases e : ixN xs.length i with
  | none => rw [e] at h; cases h
  | some j =>
    rw [e] at h
    obtain ⟨h1, h2, h3, h4⟩ := ixN_seq e
    exact ⟨j, h1, h, h2, h3, h4⟩
theorem atI_nat {α : Type} {xs : List α} {j : Nat} {v : α} (h : xs[j]? = some v) : atI xs (j : Int) = some v := by
  have hj : j < xs.length := (List.getElem?_eq_some_iff.mp h).1
  have e : ixN xs.length (j : Int) = some j := by
    unfold ixN
    rw [if_pos (by omega), if_pos (by omega)]; simp
  unfold atI; rw [e]; exact h
/-! ### what may be subscripted -/
/-- what stands as an index of a plain subscript -/
def PlainIx (b : Expr) : Prop := ∀ o i, subscripted b false o i = operate [o, i] (getItem o i)
/-- a subscript by values -/
def IxR (X : Cx) (r : R2) : Prop :=
  ∀ (value slice : Expr) (pins : List (Addr × Obj)) (s : Shared) (σ : St) (H : Hp) (x y : V) (v u : Value) (Q : VK), Inv X pins σ H s → RelV x v → RelV y u → r x y H Q →
    subscripted slice false v u = operate [v, u] (getItem v u) → wpAny (model X.prog X.w) X.A (subscriptTail value slice v u) (EP X pins σ Q) X.xe s
/-- a call of a builtin's method by values: the receiver, the arguments -/
def MtR (X : Cx) (id : String) (r : V → List V → Hp → VK → Prop) : Prop :=
  ∀ (pins : List (Addr × Obj)) (s : Shared) (σ : St) (H : Hp) (x : V) (xs : List V) (v : Value) (us : List Value) (Q : VK), Inv X pins σ H s → RelV x v → Vals xs us → r x xs H Q →
    wpAny (model X.prog X.w) X.A (call (.builtin id) (v :: us)) (EP X pins σ Q) X.xe s
section
variable {X : Cx} {a b : Expr} {ta tb : TE} {pos : Pos}
theorem IxR.or {r r' : R2} (h : IxR X r) (h' : IxR X r') : IxR X (fun x y H Q => r x y H Q ∨ r' x y H Q) := by
  intro value slice pins s σ H x y v u Q I rx ry q hs
  rcases q with q | q
  · exact h value slice pins s σ H x y v u Q I rx ry q hs
  · exact h' value slice pins s σ H x y v u Q I rx ry q hs
theorem MtR.or {id : String} {r r' : V → List V → Hp → VK → Prop} (h : MtR X id r) (h' : MtR X id r') : MtR X id (fun x xs H Q => r x xs H Q ∨ r' x xs H Q) := by
  intro pins s σ H x xs v us Q I rx rs q
  rcases q with q | q
  · exact h pins s σ H x xs v us Q I rx rs q
  · exact h' pins s σ H x xs v us Q I rx rs q
/-- a[b] -/
theorem pe_ix {r : R2} (hr : IxR X r) (ha : PE X a ta) (hb : PE X b tb) (hs : PlainIx b) : PE X (.Subscript a b pos) (tOp r ta tb) := by
  intro pins s σ H Q I h
  exact Subscript_ (binT ha hb I h fun v u s2 x y H2 I2 rx ry q => hr a b pins s2 σ H2 x y v u Q I2 rx ry q (hs _ _))

def rIxL (K : PySem.W.Frag) : R2 := fun x y H Q => ∃ p xs i v, x = .ref p ∧ y = .int i ∧ SqL K H p xs ∧ atI xs i = some v ∧ Q v H
def rIxT (K : PySem.W.Frag) : R2 := fun x y H Q => ∃ p xs i v, x = .ref p ∧ y = .int i ∧ SqT K H p xs ∧ atI xs i = some v ∧ Q v H
def rIxS : R2 := fun x y H Q => ∃ z i c, x = .str z ∧ y = .int i ∧ z.length ≤ sizeLine ∧ atI z.cps.toList i = some c ∧ Q (.str ⟨#[c]⟩) H
theorem ix_list : IxR X (rIxL X.K) := by
  intro value slice pins s σ H x y v u Q I rx ry h hs
  obtain ⟨p, xs, i, z, rfl, rfl, hq, he, q⟩ := h
  cases rx
  obtain ⟨t, rfl⟩ := ry
  obtain ⟨its, r, pl, hz⟩ := I.list hq
  obtain ⟨j, h1, h2, h3, h4, h5⟩ := atI_get he
  obtain ⟨w, ew, rw'⟩ := r.get h2
  have hl := r.length
  have hn := line63
  have fin : EP X pins σ Q w s := ⟨z, H, I, rw', q⟩
  by_cases h0 : 0 ≤ i
  · have hj : i.toNat = j := by
      rw [seqIndex_of h0 h5] at h1
      exact Option.some.inj h1
    exact item_listR pl.isList h0 (by omega) (by rw [hj]; simpa using ew) fin hs
  · have hj : (i + (its.toArray.size : Int)).toNat = j := by
      rw [seqIndex_neg (by omega) h4] at h1
      rw [List.size_toArray, ← hl]
      exact Option.some.inj h1
    exact subscriptTail_builtinR (x := w) pl.isList.typeIs slot_list_getitem.lookup
      (wpAny_getItem_list_neg (Q := fun r s' => r = w ∧ EP X pins σ Q r s') pl.isList (by omega) (by rw [List.size_toArray] <;> omega) (by omega) (by rw [hj]; simpa using ew) ⟨rfl, fin⟩) hs
theorem ix_tup : IxR X (rIxT X.K) := by
  intro value slice pins s σ H x y v u Q I rx ry h hs
  obtain ⟨p, xs, i, z, rfl, rfl, hq, he, q⟩ := h
  cases rx
  obtain ⟨t, rfl⟩ := ry
  obtain ⟨its, r, pl, hz⟩ := I.tuple hq
  obtain ⟨j, h1, h2, h3, h4, h5⟩ := atI_get he
  obtain ⟨w, ew, rw'⟩ := r.get h2
  have hl := r.length
  have hn := line63
  have fin : EP X pins σ Q w s := ⟨z, H, I, rw', q⟩
  exact subscriptTail_builtinR (x := w) pl.typeIs slot_tuple_getitem.lookup
    (getItem_tuple (j := j) (Q := fun r s' => r = w ∧ EP X pins σ Q r s') pl (by omega) (by omega) (by rw [List.size_toArray, ← hl]; exact h1) (by simpa using ew) ⟨rfl, fin⟩) hs
theorem ix_str : IxR X rIxS := by
  intro value slice pins s σ H x y v u Q I rx ry h hs
  obtain ⟨z, i, c, rfl, rfl, hz, he, q⟩ := h
  obtain ⟨t, rfl⟩ := rx
  obtain ⟨t', rfl⟩ := ry
  obtain ⟨j, h1, h2, h3, h4, h5⟩ := atI_get he
  have hl : z.cps.toList.length = z.length := by simp [Str.length]
  rw [hl] at h1 h4 h5
  have hn := line63
  exact tail_any (typeIs_str s z t) slot_str_getitem.lookup (getItem_str (c := c) (by
    have e1 : decide (i < -(2 ^ 63 : Int)) = false := decide_eq_false (by omega)
    have e2 : decide (i ≥ 2 ^ 63) = false := decide_eq_false (by omega)
    rw [e1, e2, Bool.or_false]) (by rw [h1]; simpa using h2) ⟨.str ⟨#[c]⟩, H, I.tok _, ⟨_, rfl⟩, q⟩) hs
/-! ### xs[i] = v, any sign -/
/-- the list's object behind a store -/
theorem mapSeq_set (its : List Value) (n j : Nat) (u : Value) : Obj.mapSeq (·.setIfInBounds j u) { cls := .type "list", data := .seq its.toArray n } = { cls := .type "list", data := .seq (its.set j u).toArray n } := by
  simp [Obj.mapSeq]
theorem Inv.lst {pins : List (Addr × Obj)} {σ : St} {H : Hp} {s : Shared} {p : Addr} {xs : List V} (I : Inv X pins σ H s) (h : H p = some (.lst xs)) :
    ∃ (its : List Value) (n : Nat), Vals xs its ∧ s.heap.get? p = some { cls := .type "list", data := .seq its.toArray n } ∧ xs.length ≤ sizeLine := by
  obtain ⟨z, its, n, r, e⟩ := I.hok p _ h
  exact ⟨its, n, r, e, z⟩
/-- the list at p is written by an update of its object -/
theorem Inv.lstUpd {pins : List (Addr × Obj)} {σ : St} {H : Hp} {s : Shared} {p : Addr} {xs ys : List V} {its its' : List Value} {n n' : Nat} {f : Obj → Obj} (I : Inv X pins σ H s) (h : H p = some (.lst xs))
    (ho : s.heap.get? p = some { cls := .type "list", data := .seq its.toArray n }) (hf : f { cls := .type "list", data := .seq its.toArray n } = { cls := .type "list", data := .seq its'.toArray n' }) (r : Vals ys its') (hz : ys.length ≤ sizeLine) (t : Nat) :
    Inv X pins σ (upd H p (.lst ys)) { s with heap := s.heap.update p f, toks := t } := by
  have e : (s.heap.update p f).get? p = some { cls := .type "list", data := .seq its'.toArray n' } := by
    rw [Heap.get?_update_self f ho (by rw [hf] <;> rfl), hf]
  refine I.write (x := p) (e := p) (by rw [h]; trivial) (.inl rfl) (fun b u hb q => (Heap.get?_update_other _ _ (Ne.symm hb)).trans q) ⟨_, e⟩ ?_
  exact ⟨hz, its', n', r, e⟩
def rSetL : V → V → V → Hp → (Hp → Prop) → Prop := fun o i v H Q => ∃ p xs k j, o = .ref p ∧ i = .int k ∧ H p = some (.lst xs) ∧ ixN xs.length k = some j ∧ Q (upd H p (.lst (xs.set j v)))
theorem set_list : PSet X rSetL := by
  intro pins s σ H o i v ov iv u Q I ro ri rv h
  obtain ⟨p, xs, k, j, rfl, rfl, hp, hj, q⟩ := h
  cases ro
  obtain ⟨t, rfl⟩ := ri
  obtain ⟨its, n, r, ho, hz⟩ := I.lst hp
  obtain ⟨h1, h2, h3, h4⟩ := ixN_seq hj
  have hl := r.length
  have hn := line63
  have I' : Inv X pins σ (upd H p (.lst (xs.set j v))) { s with heap := s.heap.update p (Obj.mapSeq (·.setIfInBounds j u)) } :=
    I.lstUpd hp ho (mapSeq_set its n j u) (r.set rv j) (by rw [List.length_set]; exact hz) s.toks
  by_cases h0 : 0 ≤ k
  · have hk : k.toNat = j := by
      rw [seqIndex_of h0 h4] at h1
      exact Option.some.inj h1
    exact PySem.W.ki_setAt ho h0 (by omega) (by rw [List.size_toArray, ← hl]; exact h4) (by rw [hk]; exact ⟨_, I', q⟩)
  · have hk : (k + (its.toArray.size : Int)).toNat = j := by
      rw [seqIndex_neg (by omega) h3] at h1
      rw [List.size_toArray, ← hl]
      exact Option.some.inj h1
    exact PySem.W.ki_setBack ho (by omega) (by rw [List.size_toArray, ← hl]; exact h3) (by omega) (by rw [hk]; exact ⟨_, I', q⟩)

/-! ### slices -/
theorem slice_bounds (lo hi : Option Int) (n : Nat) : (sliceBounds lo hi none n).1 = ((HT.sIx n 0 lo : Nat) : Int) ∧ (sliceBounds lo hi none n).2.1 = ((HT.sIx n n hi : Nat) : Int) ∧ (sliceBounds lo hi none n).2.2 = 1 := by
  refine ⟨?_, ?_, rfl⟩
  · cases lo with
    | none => simp [sliceBounds, HT.sIx]
    | some i =>
      simp only [sliceBounds, HT.sIx, Option.getD_none, show (1 : Int) > 0 by decide, if_true]
      by_cases h : i < 0
      · simp only [h, if_true] <;> omega
      · simp only [h, if_false] <;> omega
  · cases hi with
    | none => simp [sliceBounds, HT.sIx]
    | some i =>
      simp only [sliceBounds, HT.sIx, Option.getD_none, show (1 : Int) > 0 by decide, if_true]
      by_cases h : i < 0
      · simp only [h, if_true] <;> omega
      · simp only [h, if_false] <;> omega
theorem slicePick_cut (its : List Value) (lo hi : Option Int) : slicePick its.toArray lo hi none = ((its.drop (HT.sIx its.length 0 lo)).take (HT.sIx its.length its.length hi - HT.sIx its.length 0 lo)).toArray := by
  obtain ⟨h1, h2, h3⟩ := slice_bounds lo hi its.toArray.size
  unfold slicePick
  rw [h1, h2, h3]
  simp only [sliceRange_one, pick_run, List.size_toArray] <;> rfl
/-- xs[lo:hi] of a list: a new list -/
def rSlL (K : PySem.W.Frag) : V → Option Int → Option Int → Hp → VK → Prop := fun x lo hi H Q => ∃ a xs, x = .ref a ∧ SqL K H a xs ∧ ∀ p, H p = none → Q (.ref p) (upd H p (.lst (cutV xs lo hi)))
theorem sl_list : SlR X (rSlL X.K) := by
  intro pins s σ H x v vl vu lo hi sl Q I rx hs pl pu h
  obtain ⟨a, xs, rfl, hx, q⟩ := h
  cases rx
  obtain ⟨its, r, ht, hz⟩ := I.list hx
  have hlen := r.length
  refine ⟨"list", _, slot_list_getitem.lookup, ht.isList.typeIs, ?_⟩
  refine wpAny_getItem_list_slice ht.isList hs pl pu .none (by simp) ?_ (by rw [List.size_toArray] <;> omega)
  rw [slicePick_cut, ← hlen]
  refine ⟨.ref s.heap.objs.size, _, I.laid (t' := s.toks) (o := .lst (cutV xs lo hi)) (fun b ob q => Heap.get?_push_of_some _ q) (Nat.le_refl _) ?_, rfl, q _ (I.hok.fresh (Nat.le_refl _))⟩
  exact ⟨Nat.le_trans (cutV_length xs lo hi) hz, _, 0, (r.drop (HT.sIx xs.length 0 lo)).take (HT.sIx xs.length xs.length hi - HT.sIx xs.length 0 lo), Heap.get?_push_size _ rfl⟩

/-! ### in, not in: flat items -/
def flatV : V → Bool
  | .non => true
  | .bl _ => true
  | .int _ => true
  | .str _ => true
  | _ => false
/-- == of flat values -/
def eqV : V → V → Bool
  | .non, .non => true
  | .bl a, .bl b => a == b
  | .bl a, .int b => (if a then 1 else 0) == b
  | .int a, .bl b => a == (if b then 1 else 0)
  | .int a, .int b => a == b
  | .str a, .str b => a == b
  | _, _ => false
theorem eqAt_V {A : Around} {s : Shared} {y x : V} {u v : Value} (ry : RelV y u) (rx : RelV x v) (fy : flatV y = true) (fx : flatV x = true) : SeqAt.EqAt A s u v (eqV y x) := by
  cases y with
  | non =>
    cases ry
    cases x with
    | non => cases rx; exact SeqAt.EqAt.same _
    | bl b => cases rx; exact SeqAt.EqAt.none_bool b
    | int b => obtain ⟨t, rfl⟩ := rx; exact SeqAt.EqAt.none_int b t
    | str b => obtain ⟨t, rfl⟩ := rx; exact SeqAt.EqAt.none_str b t
    | _ => exact absurd (show false = true from fx) Bool.false_ne_true
  | bl a =>
    cases ry
    cases x with
    | non => cases rx; exact SeqAt.EqAt.bool_none a
    | bl b => cases rx; exact SeqAt.EqAt.bool_bool a b
    | int b => obtain ⟨t, rfl⟩ := rx; exact SeqAt.EqAt.bool_int a b t
    | str b => obtain ⟨t, rfl⟩ := rx; exact SeqAt.EqAt.bool_str a b t
    | _ => exact absurd (show false = true from fx) Bool.false_ne_true
  | int a =>
    obtain ⟨t', rfl⟩ := ry
    cases x with
    | non => cases rx; exact SeqAt.EqAt.int_none a t'
    | bl b => cases rx; exact SeqAt.EqAt.int_bool a t' b
    | int b => obtain ⟨t, rfl⟩ := rx; exact SeqAt.EqAt.int_int a t' b t
    | str b => obtain ⟨t, rfl⟩ := rx; exact SeqAt.EqAt.int_str a t' b t
    | _ => exact absurd (show false = true from fx) Bool.false_ne_true
  | str a =>
    obtain ⟨t', rfl⟩ := ry
    cases x with
    | non => cases rx; exact SeqAt.EqAt.str_none a t'
    | bl b => cases rx; exact SeqAt.EqAt.str_bool a t' b
    | int b => obtain ⟨t, rfl⟩ := rx; exact SeqAt.EqAt.str_int a t' b t
    | str b => obtain ⟨t, rfl⟩ := rx; exact SeqAt.EqAt.str_str a t' b t
    | _ => exact absurd (show false = true from fx) Bool.false_ne_true
  | _ => exact absurd (show false = true from fy) Bool.false_ne_true
/-- the items' answers, read off the values (a value's own answer does not lean on its token) -/
def eqU (x : V) (u : Value) : Bool := match u with
  | .none => eqV .non x
  | .bool b => eqV (.bl b) x
  | .int i _ => eqV (.int i) x
  | .str z _ => eqV (.str z) x
  | _ => false
theorem eqU_of {x y : V} {u : Value} (r : RelV y u) (f : flatV y = true) : eqU x u = eqV y x := by
  cases y with
  | non => cases r; rfl
  | bl b => cases r; rfl
  | int i => obtain ⟨t, rfl⟩ := r; rfl
  | str z => obtain ⟨t, rfl⟩ := r; rfl
  | _ => exact absurd (show false = true from f) Bool.false_ne_true
theorem any_eqU {x : V} : ∀ {xs : List V} {us : List Value}, Vals xs us → xs.all flatV = true → us.any (eqU x) = xs.any fun y => eqV y x
  | _, _, .nil, _ => rfl
  | y :: xs, u :: us, .cons r t, f => by
    rw [List.all_cons, Bool.and_eq_true] at f
    rw [List.any_cons, List.any_cons, eqU_of r f.1, any_eqU t f.2]
theorem mem_eqAt {A : Around} {s : Shared} {x : V} {v : Value} (rx : RelV x v) (fx : flatV x = true) : ∀ {xs : List V} {us : List Value}, Vals xs us → xs.all flatV = true → ∀ u ∈ us, SeqAt.EqAt A s u v (eqU x u)
  | _, _, .nil, _ => fun u hu => by cases hu
  | y :: xs, u :: us, .cons r t, f => fun u' hu => by
    rw [List.all_cons, Bool.and_eq_true] at f
    rcases List.mem_cons.mp hu with rfl | hu
    · rw [eqU_of r f.1]; exact eqAt_V r rx f.1 fx
    · exact mem_eqAt rx fx t f.2 u' hu
def inV (x : V) (xs : List V) : Bool := xs.any fun y => eqV y x
/-- x in a list or tuple of flat items -/
def rIn (K : PySem.W.Frag) (neg : Bool) : R2 := fun x y H Q => ∃ p xs, y = .ref p ∧ (SqL K H p xs ∨ SqT K H p xs) ∧ flatV x = true ∧ xs.all flatV = true ∧ Q (.bl (if neg then !inV x xs else inV x xs)) H
theorem op_in_seq : OpR X (compareOp .In) (rIn X.K false) := by
  intro pins s σ H x y v u Q I rx ry h
  obtain ⟨p, xs, rfl, hq, fx, fs, q⟩ := h
  cases ry
  rcases hq with hq | hq
  · obtain ⟨its, r, pl, hz⟩ := I.list hq
    refine SeqAt.in_listAt (eqU x) pl.isList (fun w hw => mem_eqAt rx fx r fs w (by simpa using hw)) ⟨.bl _, H, I, rfl, ?_⟩
    rw [show its.toArray.any (eqU x) = its.any (eqU x) by simp, any_eqU r fs]
    exact q
  · obtain ⟨its, r, pl, hz⟩ := I.tuple hq
    refine SeqAt.in_tupleAt (eqU x) pl (fun w hw => mem_eqAt rx fx r fs w (by simpa using hw)) ⟨.bl _, H, I, rfl, ?_⟩
    rw [show its.toArray.any (eqU x) = its.any (eqU x) by simp, any_eqU r fs]
    exact q
theorem op_notIn_seq : OpR X (compareOp .NotIn) (rIn X.K true) := by
  intro pins s σ H x y v u Q I rx ry h
  obtain ⟨p, xs, rfl, hq, fx, fs, q⟩ := h
  cases ry
  rcases hq with hq | hq
  · obtain ⟨its, r, pl, hz⟩ := I.list hq
    refine SeqAt.notIn_listAt (eqU x) pl.isList (fun w hw => mem_eqAt rx fx r fs w (by simpa using hw)) ⟨.bl _, H, I, rfl, ?_⟩
    rw [show its.toArray.any (eqU x) = its.any (eqU x) by simp, any_eqU r fs]
    exact q
  · obtain ⟨its, r, pl, hz⟩ := I.tuple hq
    refine SeqAt.notIn_tupleAt (eqU x) pl (fun w hw => mem_eqAt rx fx r fs w (by simpa using hw)) ⟨.bl _, H, I, rfl, ?_⟩
    rw [show its.toArray.any (eqU x) = its.any (eqU x) by simp, any_eqU r fs]
    exact q
/-! ### len, list(x), tuple(x) of any list or tuple that is read -/
theorem call_len_seq : CallR X (.builtin "len") (fun xs H Q => ∃ p ys, xs = [.ref p] ∧ (SqL X.K H p ys ∨ SqT X.K H p ys) ∧ Q (.int ys.length) H) := by
  intro pins s σ H xs us Q I r h
  obtain ⟨p, ys, rfl, hq, q⟩ := h
  obtain ⟨u, rfl, rx⟩ := vals1 r
  cases rx
  have hn := line63
  rcases hq with hq | hq
  · obtain ⟨its, r', pl, hz⟩ := I.list hq
    have hlen := r'.length
    exact Calls.call_len_list pl.isList (by simp only [List.size_toArray] <;> omega) ⟨.int ys.length, H, I.tok _, ⟨s.toks + 1, by rw [List.size_toArray, hlen]⟩, q⟩
  · obtain ⟨its, r', pl, hz⟩ := I.tuple hq
    have hlen := r'.length
    exact len_tuple pl (by simp only [List.size_toArray] <;> omega) ⟨.int ys.length, H, I.tok _, ⟨s.toks + 1, by rw [List.size_toArray, hlen]⟩, q⟩
theorem call_len_str : CallR X (.builtin "len") (fun xs H Q => ∃ z, xs = [.str z] ∧ z.length ≤ sizeLine ∧ Q (.int z.length) H) := by
  intro pins s σ H xs us Q I r h
  obtain ⟨z, rfl, hz, q⟩ := h
  obtain ⟨u, rfl, t, rfl⟩ := vals1 r
  have hn := line63
  exact len_str (by omega) ⟨.int z.length, H, I.tok _, ⟨_, rfl⟩, q⟩
theorem CallR.or {f : Value} {r r' : List V → Hp → VK → Prop} (h : CallR X f r) (h' : CallR X f r') : CallR X f (fun xs H Q => r xs H Q ∨ r' xs H Q) := by
  intro pins s σ H xs us Q I rs q
  rcases q with q | q
  · exact h pins s σ H xs us Q I rs q
  · exact h' pins s σ H xs us Q I rs q
theorem call_tuple_of : CallR X (.type "tuple") (fun xs H Q => ∃ p ys, xs = [.ref p] ∧ ((SqL X.K H p ys ∧ ∀ l, H l = none → Q (.ref l) (upd H l (.tup ys))) ∨ (SqT X.K H p ys ∧ Q (.ref p) H))) := by
  intro pins s σ H xs us Q I r h
  obtain ⟨p, ys, rfl, h⟩ := h
  obtain ⟨u, rfl, rx⟩ := vals1 r
  cases rx
  rcases h with ⟨hq, q⟩ | ⟨hq, q⟩
  · obtain ⟨its, r', pl, hz⟩ := I.list hq
    have hlen := r'.length
    refine call_tuple_list pl.isList (fun h' kp => ?_) (by simp only [List.size_toArray] <;> omega)
    have I1 : Inv X pins σ H { s with heap := h' } := I.kept (t' := s.toks) kp
    have I2 : Inv X pins σ (upd H h'.objs.size (.tup ys)) { s with heap := h'.push { cls := .type "tuple", data := .seq its.toArray } } :=
      I1.laid (t' := s.toks) (fun b o e => Heap.get?_push_of_some _ e) (Nat.le_refl _) (show ObjOk X.prog X.w _ _ _ (.tup ys) from ⟨hz, its, r', IsTup.new _ _⟩)
    exact ⟨.ref h'.objs.size, _, I2, rfl, q _ (I1.hok.fresh (Nat.le_refl _))⟩
  · obtain ⟨its, r', pl, hz⟩ := I.tuple hq
    exact call_tuple_same pl ⟨.ref p, H, I, rfl, q⟩

/-! ### the call of a builtin's method: o.m(..) -/
/-- the value is of that builtin type -/
noncomputable def tyV (K : PySem.W.Frag) (T : String) (x : V) (H : Hp) : Prop := match x with
  | .str _ => T = "str"
  | .int _ => T = "int"
  | .ref p => (T = "list" ∧ ∃ xs, SqL K H p xs) ∨ (T = "tuple" ∧ ∃ o, K.lookup p = some o ∧ o.cls = .type "tuple" ∧ o.dict = none) ∨
      (T = "dict" ∧ ((∃ kvs, H p = some (.dK kvs)) ∨ ∃ kvs, H p = some (.dT kvs))) ∨ (T = "set" ∧ ∃ S n, H p = some (.set S n))
  | _ => False
theorem tyV_is {pins : List (Addr × Obj)} {σ : St} {H : Hp} {s : Shared} {T : String} {x : V} {v : Value} (I : Inv X pins σ H s) (r : RelV x v) (ty : tyV X.K T x H) :
    s.TypeIs v T ∧ ∀ a, v = .ref a → ∃ ob, s.heap.get? a = some ob ∧ ob.dict = none := by
  cases x with
  | str z =>
    obtain ⟨t, rfl⟩ := r
    cases (show T = "str" from ty)
    exact ⟨typeIs_str s z t, fun _ e => nomatch e⟩
  | int i =>
    obtain ⟨t, rfl⟩ := r
    cases (show T = "int" from ty)
    exact ⟨typeIs_int s i t, fun _ e => nomatch e⟩
  | ref p =>
    cases r
    rcases ty with ⟨rfl, xs, hq⟩ | ⟨rfl, o, hk, hc, hd⟩ | ⟨rfl, hk⟩ | ⟨rfl, S, n, hk⟩
    · obtain ⟨its, _, pl, _⟩ := I.list hq
      refine ⟨pl.isList.typeIs, fun a e => ?_⟩
      cases e
      obtain ⟨o, n, e, c, hd, _⟩ := pl
      exact ⟨o, e, hd⟩
    · refine ⟨⟨o, I.kIn p o hk, hc⟩, fun a e => ?_⟩
      cases e
      exact ⟨o, I.kIn _ o hk, hd⟩
    · have z : ∃ o, s.heap.get? p = some o ∧ o.ExactDict := by
        rcases hk with ⟨kvs, hk⟩ | ⟨kvs, hk⟩
        · obtain ⟨_, _, _, _, o, _, _, e, ex, _⟩ := I.hok p _ hk
          exact ⟨o, e, ex⟩
        · obtain ⟨_, _, _, _, o, _, _, e, ex, _⟩ := I.hok p _ hk
          exact ⟨o, e, ex⟩
      obtain ⟨o, e, ex⟩ := z
      refine ⟨⟨o, e, ex.1⟩, fun a e2 => ?_⟩
      cases e2
      exact ⟨o, e, ex.2.1⟩
    · obtain ⟨o, _, _, _, e, ex, _⟩ := I.hok p _ hk
      refine ⟨⟨o, e, ex.1⟩, fun a e2 => ?_⟩
      cases e2
      exact ⟨o, e, ex.2.1⟩
  | _ => exact False.elim ty
variable {o e : Expr} {es : List Expr} {to : TE} {t : TA} {name : Str} {apos cpos : Pos} {T id : String} {r : V → List V → Hp → VK → Prop}
/- xs.append(e), list.index on a module's tuple .. are MtR facts of 06m -/
end
end L2

namespace L2
open PySem PySem.Spec PyProof.Rows

def MtM (X : Cx) (id : String) (r : V → List V → Hp → VK → Prop) : Prop :=
  ∀ (pins : List (Addr × Obj)) (s : Shared) (σ : St) (H : Hp) (x : V) (xs : List V) (v : Value) (us : List Value) (Q : VK), Inv X pins σ H s → RelV x v → Vals xs us → r x xs H Q →
    wpAny (model X.prog X.w) X.A (call (.builtin id) (v :: us)) (EP X pins σ Q) X.xe s

/-! ### lists of values -/
theorem Vals.one : ∀ {x : V} {us : List Value}, Vals [x] us → ∃ u, us = [u] ∧ RelV x u
  | _, _, .cons r .nil => ⟨_, rfl, r⟩
theorem Vals.two : ∀ {x y : V} {us : List Value}, Vals [x, y] us → ∃ u v, us = [u, v] ∧ RelV x u ∧ RelV y v
  | _, _, _, .cons r (.cons q .nil) => ⟨_, _, rfl, r, q⟩
theorem Vals.zero : ∀ {us : List Value}, Vals [] us → us = []
  | _, .nil => rfl
theorem Vals.dropLast {xs : List V} {us : List Value} (h : Vals xs us) : Vals xs.dropLast us.dropLast := by
  induction h with
  | nil => exact .nil
  | cons r t ih =>
    cases t with
    | nil => exact .nil
    | cons q t' => exact .cons r ih
theorem Vals.rep {xs : List V} {us : List Value} (h : Vals xs us) : ∀ k : Nat, Vals (List.replicate k xs).flatten (List.replicate k us).flatten
  | 0 => .nil
  | k + 1 => by
    rw [List.replicate_succ, List.replicate_succ, List.flatten_cons, List.flatten_cons]
    exact Vals.append h (Vals.rep h k)
theorem erase_last {α : Type} (l : List α) : l.eraseIdx (l.length - 1) = l.dropLast := by
  induction l with
  | nil => rfl
  | cons a r ih =>
    cases r with
    | nil => rfl
    | cons b r =>
      have e : (a :: b :: r).length - 1 = ((b :: r).length - 1) + 1 := by
        have h1 : (a :: b :: r).length = r.length + 2 := rfl
        have h2 : (b :: r).length = r.length + 1 := rfl
        omega
      rw [e, List.eraseIdx_cons_succ, ih]
      all_goals rfl
theorem foldl_rep (its : List Value) : ∀ (k : Nat) (acc : List Value),
    List.foldl (fun x1 x2 => x1 ++ x2) acc.toArray (List.replicate k its.toArray) = (acc ++ (List.replicate k its).flatten).toArray
  | 0, acc => by simp
  | k + 1, acc => by
    have e : acc.toArray ++ its.toArray = (acc ++ its).toArray := by simp
    have e2 : (acc ++ its) ++ (List.replicate k its).flatten = acc ++ (List.replicate (k + 1) its).flatten := by
      rw [List.replicate_succ, List.flatten_cons, List.append_assoc]
    rw [← e2, ← foldl_rep its k (acc ++ its), ← e, List.replicate_succ, List.foldl_cons]

section
variable {X : Cx} {pins : List (Addr × Obj)} {σ : St} {H : Hp} {s : Shared} {l b : Addr} {xs ys zs : List V}

/-! ### the two steps: a tracked list is rewritten, a new list is laid -/
theorem Inv.lset {its its' : List Value} {n : Nat} {f : Array Value → Array Value} {t' : Nat} (I : Inv X pins σ H s) (hH : H l = some (.lst xs))
    (e : s.heap.get? l = some { cls := .type "list", data := .seq its.toArray n }) (hf : f its.toArray = its'.toArray) (hv : Vals ys its') (hz : ys.length ≤ sizeLine) :
    Inv X pins σ (upd H l (.lst ys)) { s with heap := s.heap.update l (Obj.mapSeq f), toks := t' } := by
  have q := PySem.IsL.update e f
  rw [hf] at q
  refine I.write (x := l) (e := l) (by rw [hH]; exact trivial) (.inl rfl) (fun b' u hb hu => (Heap.get?_update_other s.heap (Obj.mapSeq f) (Ne.symm hb)).trans hu) ⟨_, q⟩ ?_
  exact ⟨hz, its', _, hv, q⟩
theorem Inv.lnew {its : List Value} {t' : Nat} (I : Inv X pins σ H s) (hv : Vals ys its) (hz : ys.length ≤ sizeLine) :
    Inv X pins σ (upd H s.heap.objs.size (.lst ys)) { s with heap := s.heap.push { cls := .type "list", data := .seq its.toArray }, toks := t' } :=
  I.laid (fun _ _ q => Heap.get?_push_of_some _ q) (Nat.le_refl _) ⟨hz, its, 0, hv, Heap.get?_push_size _ rfl⟩
theorem Inv.fresh (I : Inv X pins σ H s) : H s.heap.objs.size = none := I.hok.fresh (Nat.le_refl _)
theorem Inv.lstM (I : Inv X pins σ H s) (hH : H l = some (.lst xs)) : xs.length ≤ sizeLine ∧ ∃ (its : List Value) (n : Nat), Vals xs its ∧ xs.length = its.length ∧ s.heap.get? l = some { cls := .type "list", data := .seq its.toArray n } := by
  obtain ⟨z, its, n, r, e⟩ := I.hok l _ hH
  exact ⟨z, its, n, r, r.length, e⟩

theorem notLongL {n : Nat} (h : n ≤ sizeLine) : Builtin.List.listTooLong n = false := by
  unfold Builtin.List.listTooLong
  exact decide_eq_false (by omega)
end

section
variable {X : Cx}

/-! ### methods -/
def rAppend : V → List V → Hp → VK → Prop := fun x vs H Q => ∃ l xs y, x = .ref l ∧ vs = [y] ∧ H l = some (.lst xs) ∧ xs.length < sizeLine ∧ Q .non (upd H l (.lst (xs ++ [y])))
theorem mt_append : MtM X "list.append" rAppend := by
  intro pins s σ H x vs v us Q I rx rv h
  obtain ⟨l, xs, y, rfl, rfl, hH, hz, q⟩ := h
  cases rx
  obtain ⟨u, rfl, ru⟩ := rv.one
  obtain ⟨z, its, n, r, hl, e⟩ := I.lstM hH
  refine call_meets F.slot_list_append ⟨_, e, rfl⟩ F.entry_list_append (F.args_list_append_2 _ _) (PySem.list_append l its.toArray n u (by rw [List.size_toArray]; omega)) ⟨e, ?_⟩
  refine ⟨.non, _, I.lset (its' := its ++ [u]) hH e (by simp) (r.append (.cons ru .nil)) ?_, rfl, q⟩
  rw [List.length_append, List.length_singleton]
  omega

def rExtend : V → List V → Hp → VK → Prop := fun x vs H Q => ∃ l b xs zs, x = .ref l ∧ vs = [.ref b] ∧ H l = some (.lst xs) ∧ H b = some (.lst zs) ∧ xs.length + zs.length ≤ sizeLine ∧ Q .non (upd H l (.lst (xs ++ zs)))
theorem mt_extend : MtM X "list.extend" rExtend := by
  intro pins s σ H x vs v us Q I rx rv h
  obtain ⟨l, b, xs, zs, rfl, rfl, hH, hB, hz, q⟩ := h
  cases rx
  obtain ⟨u, rfl, ru⟩ := rv.one
  cases ru
  obtain ⟨z, its, n, r, hl, e⟩ := I.lstM hH
  obtain ⟨z2, its2, n2, r2, hl2, e2⟩ := I.lstM hB
  have hsz : its.toArray.size + its2.toArray.size ≤ sizeLine := by rw [List.size_toArray, List.size_toArray]; omega
  have hlong : ¬ (!its.toArray.isEmpty && Builtin.List.listTooLong (its.toArray.size + its2.toArray.size)) = true := by
    rw [notLongL hsz, Bool.and_false]
    exact Bool.false_ne_true
  refine call_meets F.slot_list_extend ⟨_, e, rfl⟩ F.entry_list_extend (F.args_list_extend_2 _ _)
    (AutoSeq1.list_extend_list_list_0 l its.toArray n b its2.toArray n2 hlong (by rw [List.size_toArray]; omega) (by omega)) ⟨e, e2, ?_⟩
  refine ⟨.non, _, I.lset (its' := its ++ its2) hH e (by simp) (r.append r2) ?_, rfl, q⟩
  rw [List.length_append]
  omega

def rPop : V → List V → Hp → VK → Prop := fun x vs H Q => ∃ l xs y, x = .ref l ∧ vs = [] ∧ H l = some (.lst xs) ∧ xs[xs.length - 1]? = some y ∧ Q y (upd H l (.lst xs.dropLast))
theorem mt_pop : MtM X "list.pop" rPop := by
  intro pins s σ H x vs v us Q I rx rv h
  obtain ⟨l, xs, y, rfl, rfl, hH, hy, q⟩ := h
  cases rx
  have hus := rv.zero
  subst hus
  obtain ⟨z, its, n, r, hl, e⟩ := I.lstM hH
  obtain ⟨u, hu, ru⟩ := r.get hy
  have hy' : its.toArray[its.toArray.size - 1]? = some u := by
    show its.toArray[its.length - 1]? = some u
    rw [← Array.getElem?_toList, ← hl]
    exact hu
  refine call_meets F.slot_list_pop ⟨_, e, rfl⟩ F.entry_list_pop (F.args_list_pop_1 _) (MeetsSeq.list_pop_last l its.toArray n u hy' (by rw [List.size_toArray]; omega)) ⟨e, ?_⟩
  refine ⟨y, _, I.lset (its' := its.dropLast) hH e ?_ r.dropLast ?_, ru, q⟩
  · show its.toArray.eraseIdxIfInBounds (its.toArray.size - 1) = its.dropLast.toArray
    rw [List.size_toArray, List.eraseIdxIfInBounds_toArray, erase_last]
  · rw [List.length_dropLast]
    omega

/-! ### list + list, list += list, list * int -/
def rCat : R2 := fun x y H Q => ∃ l b xs zs, x = .ref l ∧ y = .ref b ∧ H l = some (.lst xs) ∧ H b = some (.lst zs) ∧ xs.length + zs.length ≤ sizeLine ∧ ∀ p, H p = none → Q (.ref p) (upd H p (.lst (xs ++ zs)))
theorem op_cat : OpR X (binaryOp .Add) rCat := by
  intro pins s σ H x y v u Q I rx ry h
  obtain ⟨l, b, xs, zs, rfl, rfl, hH, hB, hz, q⟩ := h
  cases rx
  cases ry
  obtain ⟨z, its, n, r, hl, e⟩ := I.lstM hH
  obtain ⟨z2, its2, n2, r2, hl2, e2⟩ := I.lstM hB
  refine PySem.P.add_list e e2 ?_ (by rw [List.size_toArray, List.size_toArray]; omega)
  have ea : its.toArray ++ its2.toArray = (its ++ its2).toArray := by simp
  rw [ea]
  exact ⟨.ref _, _, I.lnew (t' := s.toks) (r.append r2) (by rw [List.length_append]; omega), rfl, q _ I.fresh⟩
/-- a list times an int (a negative one is nothing) -/
def rRep : R2 := fun x y H Q => ∃ l k xs, x = .ref l ∧ y = .int k ∧ H l = some (.lst xs) ∧ -(2 ^ 63) ≤ k ∧ k < 2 ^ 63 ∧ xs.length * k.toNat ≤ sizeLine ∧
  ∀ p, H p = none → Q (.ref p) (upd H p (.lst (List.replicate k.toNat xs).flatten))
theorem len_rep {α : Type} (xs : List α) (k : Nat) : (List.replicate k xs).flatten.length = k * xs.length := by
  induction k with
  | zero => simp
  | succ k ih => rw [List.replicate_succ, List.flatten_cons, List.length_append, ih, Nat.succ_mul, Nat.add_comm]
theorem op_rep : OpR X (binaryOp .Mult) rRep := by
  intro pins s σ H x y v u Q I rx ry h
  obtain ⟨l, k, xs, rfl, rfl, hH, h1, h2, hz, q⟩ := h
  cases rx
  obtain ⟨t, rfl⟩ := ry
  obtain ⟨z, its, n, r, hl, e⟩ := I.lstM hH
  have hlen : its.toArray.size * k.toNat ≤ sizeLine := by rw [List.size_toArray, ← hl]; exact hz
  have hcap : ¬ its.toArray.size * k.toNat > (2 ^ 63 - 1) / 8 := by
    have : (sizeLine : Nat) ≤ (2 ^ 63 - 1) / 8 := by decide
    omega
  have hfit : ¬ (!Builtin.List.listFitsIndex k) = true := by
    rw [fitsIndex_both h1 h2]
    exact Bool.false_ne_true
  have hlong : ¬ Builtin.List.listTooLong (its.toArray.size * k.toNat) = true := by
    rw [notLongL hlen]
    exact Bool.false_ne_true
  have hnew : List.foldl (fun x1 x2 => x1 ++ x2) #[] (List.replicate (if its.toArray.isEmpty = true then 0 else k.toNat) its.toArray) = (List.replicate k.toNat its).flatten.toArray := by
    have f0 : ∀ m : Nat, List.foldl (fun x1 x2 => x1 ++ x2) #[] (List.replicate m its.toArray) = (List.replicate m its).flatten.toArray := fun m => by
      have := foldl_rep its m []
      rw [List.nil_append] at this
      exact this
    rw [f0]
    cases its with
    | nil => simp
    | cons a r' => rw [if_neg (by simp)]
  refine wpAny_binaryOp_repeat_ref (T := "list") (U := "int") (by decide) ⟨_, e, rfl⟩ (fun s' => typeIs_int s' k t) noFill_list_mul F.fills_int_mul F.slot_int_rmul repeat_list F.slot_int_index.lookup
    (call_meets F.slot_int_rmul (typeIs_int s k t) F.entry_int_rmul (F.args_int_rmul_2 _ _) (int___rmul___int_list k t l its.toArray n)
      ⟨e, rfl, ⟨_, e, rfl⟩, call_meets F.slot_list_mul ⟨_, e, rfl⟩ F.entry_list_mul (F.args_list_mul_2 _ _) (AutoListH.list___mul___list_int_3 l its.toArray n k t hfit hcap hlong) ⟨e, ?_⟩⟩)
  rw [hnew]
  exact ⟨.ref _, _, I.lnew (t' := s.toks) (r.rep k.toNat) (by rw [len_rep, Nat.mul_comm]; exact hz), rfl, q _ I.fresh⟩

/-! ### del xs[i] -/
end

/-! ### xs[a:b] = ys -/
section
variable {prog : Program} {w : World} {A : Around} {E : Value → Shared → Prop} {s : Shared}
end

section
variable {X : Cx}
end
end L2

namespace Att
open PySem PySem.W PySem.Calls PyProof.Rows

/-! ### the script -/
theorem ints_of_wellAll {P : Params} {h : Heap} : ∀ (ns : List Int) (vs : List Value), WellAll P h vs (ns.map WData.int) → IntsAre vs ns := by
  intro ns
  induction ns with
  | nil =>
    intro vs w
    rw [List.map_nil] at w
    cases w
    exact .nil
  | cons n ns ih =>
    intro vs w
    rw [List.map_cons] at w
    cases w with
    | cons a b =>
      cases a
      exact .cons _ _ (ih _ b)

theorem script_of {l : OpenLaw} {n : Nat} (hn : l.most = some n) {P : Params} {h : Heap} {args : List WData} {vals : List Value}
    (hpre : l.row.toRowW.claim.pre args = true) (hwl : WellAll P h vals args) :
    ∃ a vs ns, vals = [Value.ref a] ∧ args = [WData.list (ns.map WData.int)] ∧ h.get? a = some { cls := .type "list", data := .seq vs.toArray } ∧ IntsAre vs ns ∧ ns.length ≤ n := by
  have hsh : WShape.hasAll [] args [.list .int] = true := (pre_splitW hpre).1
  have hc : l.pre.holds [] { args := args } = true := (pre_splitW hpre).2
  obtain ⟨d, r, rfl, h1, h2⟩ := hasAllW_cons hsh
  obtain rfl := hasAllW_nil h2
  obtain ⟨xs, rfl, h3⟩ := hasW_list h1
  obtain ⟨ns, rfl⟩ := items_int h3
  have hlen : ns.length ≤ n := by
    unfold OpenLaw.pre at hc
    have h4 : (WTm.not (.lt (.lit (.int (n : Int))) (.len (.arg 0)))).holds [] { args := [.list (ns.map .int)] } = true := by
      have h4 := (holds_andW hc).1
      rw [hn] at h4
      exact h4
    have h5 := condW_of h4 (w_not (w_lt w_lit (w_len_list (w_arg rfl))))
    rw [List.length_map] at h5
    refine Nat.le_of_not_lt fun q => ?_
    have q' : (n : Int) < ((ns.length : Nat) : Int) := by omega
    first
      | (rw [decide_eq_true q'] at h5; exact absurd h5 (by decide))
      | (simp at h5; omega)
  cases hwl with
  | cons w1 w2 =>
    cases w2
    cases w1 with
    | list ho hall => exact ⟨_, _, ns, rfl, rfl, ho, ints_of_wellAll ns _ hall, hlen⟩

theorem post_true (l : OpenLaw) (args : List WData) : l.row.toRowW.claim.post args (.bool true) args = true :=
  postW_of (r := l.row.toRowW) (X := (true == true))
    (show WShape.has [] (.bool true) .bool = true by first | rfl | decide | simp [WShape.has, WShape.arms, WShape.armsAll])
    (show (WTm.eq .res (.lit (.bool true))).value [] { args := args, res := some (.bool true), after := args } = some (.bool (true == true)) from w_eq_bool (w_res rfl) w_lit) rfl

/-! ### the attachment: holds_open's last premise (the goal 'hc' behind k_head) from a wpAny of the law's body -/
/-- the same from a codeAny of the CALL (for a layer whose function contracts speak of calls) -/
theorem attach_call {l : OpenLaw} {n : Nat} {q : Program} {loose : List Str} {XP : (Str → Option Value) → Heap → Prop} {YP : World → Heap → Prop} {d : DefRec}
    (hn : l.most = some n) (hdf : d.params.defaults = [])
    (call : ∀ (w : World) (s₀ s₁ : Shared) (mg mb : Str → Option Value) (fa : Addr) (o : Obj) (pm cd doc : Value) (a : Addr) (vs : List Value) (ns : List Int),
      Ground q loose [] XP w s₀ mg mb s₁.heap → YP w s₁.heap →
      s₁.heap.get? fa = some o → o.data = .func (docDef d.name d.params d.body d.scope pm cd doc) → s₁.heap.CodeRec cd d.name → mg d.name = some (.ref fa) →
      s₁.heap.get? a = some { cls := .type "list", data := .seq vs.toArray } → IntsAre vs ns → ns.length ≤ n → s₁.gens = #[] →
      codeAny (model l.prog w) callerA (.call (.ref fa) ⟨[.ref a], []⟩) (fun r s' => r = .ok (.ret (.bool true)) ∧ OldK s₁.heap s'.heap ∧ s'.os = s₁.os ∧ AllBare s'.gens) s₁) :
    WalkO q loose XP YP l.row.toRowW d [] (fun f vs => PySem.call f vs) := by
  intro w s₀ s₁ mg mb G Y fa o pm cd doc dV kV ho hd hcd hD hmg hg args vals as hpre hlay hrd hwl hlo
  obtain rfl : dV = .none := Dflts.none hD hdf
  obtain rfl : kV = .none := Dflts.noKw hD
  obtain ⟨a, vs, ns, rfl, rfl, hobj, hints, hlen⟩ := script_of hn hpre hwl
  refine enter_call (codeAny_mono (call w s₀ s₁ mg mb fa o pm cd doc a vs ns G Y ho (fd_plain hd) hcd hmg hobj hints hlen hg) fun r s' hq => ?_)
  obtain ⟨rfl, h2, h3, h4⟩ := hq
  exact ⟨.inl ⟨.bool true, .bool true, [], rfl, fun _ => rfl, .bool true, post_true l _, fun _ => ⟨List.Pairwise.nil, fun _ hm => (nomatch hm)⟩⟩, h2, h3, h4⟩

/-! ### rules over ANY heap (no ledger) from facts about the written part K: the library's own take a ledger (News) for what they write -/
section
variable {prog : Program} {w : World} {A : Around} {E : Value → Shared → Prop} {s : Shared} {K : Frag}

/-! the whole heap as the ledger: makes every rule that writes through a ledger a rule over any heap -/
def ledger (h : Heap) (L d : Addr) : List (Addr × Obj) := (List.range h.objs.size).filterMap fun a => if a = L ∨ a = d then none else (h.get? a).map fun o => (a, o)
end
end Att

namespace L2
open PySem PySem.Spec PyProof.Rows

theorem vals_ints : ∀ {vs : List Value} {ns : List Int}, IntsAre vs ns → Vals (ns.map V.int) vs
  | _, _, .nil => .nil
  | _, _, .cons n t h => .cons ⟨t, rfl⟩ (vals_ints h)

/-- nothing is tracked but the script, known to the object (or it is an object of the module) -/
def Only (H : Hp) : Prop := ∀ b, H b = none ∨ ∃ o xs, H b = some (.frz o (.lst xs))

/-- THE HEAD: the law's promise, at the heap behind the top. F, the promise of the law's def, may use that base is part of the heap (so K.In base, base.Ns mainGlobals mg stand in Mod) -/
theorem law_call {P : Program} {w : World} {K : PySem.W.Frag} {mg mb : Str → Option Value} {CX : CXT} {k : Nat} {fa a : Addr} {fd : FuncData} {x : Str} {sp : Sp} {s₁ : Shared} {vs : List Value} {ns : List Int}
    (KX : K.In s₁.heap) (hns : s₁.heap.Ns mainGlobals mg) (hb : s₁.heap.Ns builtinsNs mb) (hbb : ∀ x : Str, x ≠ "__name__" → mb x = bootBuiltins x) (hlim : s₁.heap.NoLimit) (hg : s₁.gens = #[])
    (ha : s₁.heap.get? a = some { cls := .type "list", data := .seq vs.toArray }) (hi : IntsAre vs ns) (hl : ns.length ≤ sizeLine) (hr : Room k callerA)
    (F : ∀ base : Heap, K.In base → base.Ns mainGlobals mg → FnOk P w K mg base CX k fa fd [x] sp) (hbind : ∀ (s : Shared) (u : Value), BindsTo s fd ⟨[u], []⟩ [(x, u)])
    (hsp : ∀ H : Hp, Only H → SqL K H a (ns.map V.int) → sp [.ref a] H (fun v _ => v = .bl true) fun _ _ _ => False)
    (hCX : ∀ H e s', CX [] H s₁ (fun _ _ _ => False) e s' → False) :
    codeAny (model P w) callerA (.call (.ref fa) ⟨[.ref a], []⟩) (fun r s' => r = .ok (.ret (.bool true)) ∧ OldK s₁.heap s'.heap ∧ s'.os = s₁.os ∧ AllBare s'.gens) s₁ := by
  have rv := vals_ints hi
  have lenV := hi.length
  -- from an abstract heap in which nothing but the script may be tracked
  have core : ∀ H : Hp, Only H → SqL K H a (ns.map V.int) → HOk P w H s₁.heap → (∀ b, H b ≠ none → b = a) → (H a ≠ none → K.lookup a = none) →
      codeAny (model P w) callerA (.call (.ref fa) ⟨[.ref a], []⟩) (fun r s' => r = .ok (.ret (.bool true)) ∧ OldK s₁.heap s'.heap ∧ s'.os = s₁.os ∧ AllBare s'.gens) s₁ := by
    intro H hO hS hok hA hK
    have base_of : ∀ {b : Addr} {o : Obj}, s₁.heap.get? b = some o → H b = none → (hidT s₁.heap H).get? b = some o := fun e n => hidT_get e n
    have noA : ∀ {b : Addr} {o : Obj} {es : Array DictEntry} {ep : Nat}, s₁.heap.get? b = some o → o.data = .dict es ep → H b = none := fun {b o es ep} e d => by
      cases q : H b with
      | none => rfl
      | some u =>
        have e' : b = a := hA b (by rw [q]; simp)
        subst e'
        rw [ha] at e; cases e
        have d' : Data.seq vs.toArray _ = Data.dict es ep := d
        cases d'
    have nsK : ∀ {b : Addr} {m : Str → Option Value}, s₁.heap.Ns b m → (hidT s₁.heap H).Ns b m := fun {b m} ⟨o, es, ep, e, d, r⟩ => ⟨o, es, ep, base_of e (noA e d), d, r⟩
    have hKb : K.In (hidT s₁.heap H) := fun b o e => base_of (KX b o e) (by
      cases q : H b with
      | none => rfl
      | some u =>
        have e' : b = a := hA b (by rw [q]; simp)
        subst e'
        rw [hK (by rw [q]; simp)] at e; cases e)
    have hM : Mod K mg (hidT s₁.heap H) := ⟨hKb, nsK hns, ⟨mb, nsK hb, hbb⟩, let ⟨mc, h1, h2⟩ := hlim; ⟨mc, nsK h1, h2⟩⟩
    have e0 : Env0 P w K mg (hidT s₁.heap H) callerA [] s₁ H := ⟨rfl, hM, fun b o e => of_hidT e, Nat.le_of_eq (hidT_size _ _), trivial, fun b hb => absurd (show b ∈ ([] : List Addr) from hb) (by simp), hok, .of_eq hg⟩
    refine codeAny_mono ((F _ hKb (nsK hns)).run callerA [] s₁ H ⟨[.ref a], []⟩ [.ref a] [.ref a] _ _ hr e0 (hbind s₁ (.ref a)) (.cons rfl .nil) (hsp H hO hS)) fun r s' h => ?_
    cases r with
    | error e => exact (hCX H e s' h).elim
    | ok fl =>
      cases fl with
      | next => exact False.elim h
      | brk => exact False.elim h
      | cont => exact False.elim h
      | ret u =>
        obtain ⟨v, H', os, bare, un, hok', r', q⟩ := h
        have q' : v = .bl true := q
        subst q'
        obtain rfl : u = Value.bool true := r'
        refine ⟨rfl, OldK.of_keep fun b o e => ?_, os, bare⟩
        cases q : H b with
        | none => exact un.keep b o e q (by intro z; exact absurd (show b ∈ ([] : List Addr) from z) (by simp)) (by simp)
        | some u =>
          rcases hO b with z | ⟨ob, xs, z⟩
          · rw [q] at z; cases z
          · have z2 := un.frzs b ob _ z
            obtain ⟨e1, _⟩ := hok b _ z
            obtain ⟨e2, _⟩ := hok' b _ z2
            rw [e] at e1; cases e1
            exact e2
  cases hk : K.lookup a with
  | some o =>
    -- the script is one of the module's own objects
    have e := KX a o hk
    rw [ha] at e
    cases e
    refine core (fun _ => none) (fun _ => .inl rfl) (.inr ⟨_, vs.toArray, _, hk, rfl, rfl, rfl, by rw [List.size_toArray, lenV]; exact hl, by simpa using rv⟩) (fun b u z => by have z' : (none : Option HO) = some u := z; cases z') (fun b z => absurd rfl z) fun z => absurd rfl z
  | none =>
    refine core (fun b => if b = a then some (.frz { cls := .type "list", data := .seq vs.toArray } (.lst (ns.map V.int))) else none) (fun b => ?_) (.inl (.inr ⟨{ cls := .type "list", data := .seq vs.toArray }, if_pos rfl⟩)) (fun b u z => ?_) (fun b z => ?_) fun _ => hk
    · by_cases hb : b = a
      · exact .inr ⟨_, _, if_pos hb⟩
      · exact .inl (if_neg hb)
    · by_cases hb : b = a
      · have z' := (if_pos hb).symm.trans z
        cases z'
        subst hb
        exact ⟨ha, by rw [List.length_map]; exact hl, vs, _, rv, ha⟩
      · have z' := (if_neg hb).symm.trans z
        cases z'
    · by_cases hb : b = a
      · exact hb
      · exact absurd (if_neg hb) z
end L2

namespace L2
open PySem PySem.Spec PyProof.Rows

/-- the goal that k_head leaves (case hc), from the law's promise. F gives the function object fd (K's own) once, then the promise over every base -/
theorem walk_of {l : PySem.W.OpenLaw} {n k : Nat} {q : Program} {loose : List Str} {XP : (Str → Option Value) → Heap → Prop} {YP : World → Heap → Prop} {d : DefRec} {K : Params → PySem.W.Frag} {CX : World → CXT} {sp : World → Sp} {x : Str}
    (hn : l.most = some n) (hn2 : n ≤ sizeLine) (hdf : d.params.defaults = []) (hr : Room k callerA)
    (hY : ∀ (w : World) (h : Heap), YP w h → (K w.params).In h)
    (F : ∀ (w : World) (mg : Str → Option Value) (fa : Addr) (h : Heap), (K w.params).In h → h.Ns mainGlobals mg → mg d.name = some (.ref fa) →
      ∃ fd : FuncData, (∀ (s : Shared) (u : Value), BindsTo s fd ⟨[u], []⟩ [(x, u)]) ∧
        ∀ base : Heap, (K w.params).In base → base.Ns mainGlobals mg → FnOk l.prog w (K w.params) mg base (CX w) k fa fd [x] (sp w))
    (hsp : ∀ (w : World) (H : Hp) (a : Addr) (ns : List Int), ns.length ≤ n → Only H → SqL (K w.params) H a (ns.map V.int) → sp w [.ref a] H (fun v _ => v = .bl true) fun _ _ _ => False)
    (hCX : ∀ (w : World) (H : Hp) (s : Shared) (e : Value) (s' : Shared), CX w [] H s (fun _ _ _ => False) e s' → False) :
    PySem.W.WalkO q loose XP YP l.row.toRowW d [] (fun f vs => PySem.call f vs) := by
  refine Att.attach_call hn hdf fun w s₀ s₁ mg mb fa o pm cd doc a vs ns G Y ho hd hcd hmg hobj hints hlen hg => ?_
  have KX := hY w _ Y
  obtain ⟨fd, hb, hF⟩ := F w mg fa _ KX G.T.g hmg
  exact law_call KX G.T.g G.T.b G.T.builtins G.T.nolimit hg hobj hints (Nat.le_trans hlen hn2) hr hF hb (fun H hO hS => hsp w H a ns hlen hO hS) fun H e s' => hCX w H s₁ e s'
end L2

/-! SHORT WORDS over the layer: a def of the text, its body, what a loop and a test want. -/
namespace L2
open PySem PySem.Spec PyProof.Rows

/-! ### the text by places -/
/-- the j-th statement of a class's body -/
def inClass (s : Stmt) (j : Nat) : Stmt := match s with
  | .ClassDef _ _ _ body _ _ _ _ _ _ _ => body.getD j (.Pass ⟨0, 0, 0, 0⟩)
  | _ => .Pass ⟨0, 0, 0, 0⟩
def defArgs (s : Stmt) : Arguments := match s with
  | .FunctionDef _ a _ _ _ _ _ _ _ _ => a
  | _ => { posonlyargs := [], args := [], vararg := none, kwonlyargs := [], kw_defaults := [], kwarg := none, defaults := [] }
def defBody (s : Stmt) : List Stmt := match s with
  | .FunctionDef _ _ b _ _ _ _ _ _ _ => b
  | _ => []
def defScope (s : Stmt) : Scope := match s with
  | .FunctionDef _ _ _ _ _ _ sc _ _ _ => sc
  | _ => { kind := .function, names := [], isGenerator := false, isCoroutine := false }

/-! ### no exception leaves a def -/
abbrev CX0 : CXT := fun _ _ _ _ _ _ => False
abbrev E0 : XK := fun _ _ _ => False
theorem pass0 {X : Cx} : Passes CX0 X E0 := fun _ _ _ _ _ _ _ h => h.elim

/-! ### a def (or method) of the text as it stands behind the top -/
structure Fun (K : PySem.W.Frag) (x qual : Str) (st : Stmt) (f : Addr) (fd : FuncData) : Prop where
  ex : ∃ (oc : Value) (od : Option Addr) (kV doc pm : Value) (an : Option Addr) (cdv ct : Value) (osl : Array (Option Value)),
    fd = PySem.W.fnOf x qual (defArgs st) (defBody st) (defScope st) .none kV doc pm an cdv ct ∧ K.lookup f = some ⟨oc, od, .func fd, osl⟩ ∧ PySem.W.codeIn K cdv qual = true
  kp : PySem.W.keepIn K (.ref f) = true
section
variable {P : Program} {w : World} {K : PySem.W.Frag} {mg : Str → Option Value} {base : Heap}
/-- THE RULE for a def: its body as a term of rules, and the reading of that term -/
theorem Fun.ok {x qual : Str} {st : Stmt} {f : Addr} {fd : FuncData} {N ps : List Str} {k : Nat} {sp : Sp} (F : Fun K x qual st f fd) (S : FnScope N ps (defScope st)) (len : ∀ vs H Q E, sp vs H Q E → vs.length = ps.length)
    (hbody : ∀ (cdv : Value) (A : Around) (outer : List Env) (s : Shared) (H : Hp) (vs : List V) (Q : VK) (E : XK), Room k (A.deeper (envOfC qual (defScope st) s.heap.objs.size f cdv)) → sp vs H Q E →
      ∃ t, PSs (cxOf CX0 P w K mg base N qual (defScope st) f cdv A outer s H E).nox (defBody st) t ∧ t { nx := fun _ H' => Q .non H', rt := Q } (start N vs) H) : FnOk P w K mg base CX0 (k + 1) f fd ps sp := by
  obtain ⟨oc, od, kV, doc, pm, an, cdv, ct, osl, rfl, lk, hcd⟩ := F.ex
  refine fn_of lk hcd S len fun A outer s H vs Q E hr hsp => ?_
  obtain ⟨t, h, q⟩ := hbody cdv A outer s H vs Q E hr hsp
  exact ⟨t, h.nox, q⟩
/-- how its arguments bind (no defaults): h is «fun _ _ _ _ _ _ us hl => match us, hl with | [_, _], _ => rfl», one _ a parameter -/
theorem Fun.binds {x qual : Str} {st : Stmt} {f : Addr} {fd : FuncData} {ps : List Str} (F : Fun K x qual st f fd)
    (h : ∀ (kV doc pm : Value) (an : Option Addr) (cdv ct : Value) (us : List Value), us.length = ps.length → bindArgs (PySem.W.fnOf x qual (defArgs st) (defBody st) (defScope st) .none kV doc pm an cdv ct) ⟨us, []⟩ = pure (ps.zip us)) : Binds K fd ps [] := by
  obtain ⟨oc, od, kV, doc, pm, an, cdv, ct, osl, rfl, lk, hcd⟩ := F.ex
  exact .all (h kV doc pm an cdv ct)
theorem fun_mk {x qual : Str} {st : Stmt} {f : Addr} {oc : Value} {od an : Option Addr} {osl : Array (Option Value)} {kV doc pm cdv ct : Value} (l : K.lookup f = some ⟨oc, od, .func (PySem.W.fnOf x qual (defArgs st) (defBody st) (defScope st) .none kV doc pm an cdv ct), osl⟩)
    (c : PySem.W.codeIn K cdv qual = true) (k : PySem.W.keepIn K (.ref f) = true) : Fun K x qual st f (PySem.W.fnOf x qual (defArgs st) (defBody st) (defScope st) .none kV doc pm an cdv ct) := ⟨⟨oc, od, kV, doc, pm, an, cdv, ct, osl, rfl, l, c⟩, k⟩
end
/-! ### expressions in short: the name that stands in the i-th slot -/
section
variable {X : Cx}
end

/-! ### tests -/
theorem iteF {A B : Prop} (h : B) : if false = true then A else B := by
  rw [if_neg Bool.false_ne_true]
  exact h
theorem iteT {A B : Prop} (h : A) : if true = true then A else B := by
  rw [if_pos rfl]
  exact h
/-! ### heaps -/
/-- all that was tracked is as it was -/
def Same (H H' : Hp) : Prop := ∀ b o, H b = some o → H' b = some o
theorem Same.refl (H : Hp) : Same H H := fun _ _ h => h
theorem Same.trans {H H1 H2 : Hp} (a : Same H H1) (b : Same H1 H2) : Same H H2 := fun c o h => b c o (a c o h)
theorem Same.free {H H' : Hp} (e : Same H H') {l : Addr} (h : H' l = Option.none) : H l = Option.none := by
  cases q : H l with
  | none => rfl
  | some o =>
    rw [e l o q] at h
    cases h
theorem Same.seq {K : PySem.W.Frag} {H H' : Hp} {a : Addr} {xs : List V} (e : Same H H') (h : SqL K H a xs) : SqL K H' a xs := by
  rcases h with (h | ⟨o, h⟩) | h
  · exact .inl (.inl (e _ _ h))
  · exact .inl (.inr ⟨o, e _ _ h⟩)
  · exact .inr h

end L2

set_option Elab.async false
set_option linter.all false
set_option maxRecDepth 100000
set_option maxHeartbeats 1000000
namespace L2
open PySem PySem.Spec PyProof.Rows

/-! ### branches that do not unfold -/
@[irreducible] def br (c : Bool) (A B : Prop) : Prop := if c = true then A else B
section
variable {A B p : Prop} {c : Bool}
theorem br_iff : br c A B = (if c = true then A else B) := by unfold br; rfl
theorem br_T (h : A) : br true A B := by unfold br; exact iteT h
theorem br_F (h : B) : br false A B := by unfold br; exact iteF h
theorem br_any (h1 : c = true → A) (h2 : c = false → B) : br c A B := by
  cases c with
  | true => exact br_T (h1 rfl)
  | false => exact br_F (h2 rfl)
theorem br_dec [Decidable p] (h1 : p → A) (h2 : ¬ p → B) : br (decide p) A B := br_any (fun h => h1 (of_decide_eq_true h)) fun h => h2 (of_decide_eq_false h)
theorem br_dT [Decidable p] (hp : p) (h : A) : br (decide p) A B := br_dec (fun _ => h) fun n => absurd hp n
theorem br_dF [Decidable p] (hp : ¬ p) (h : B) : br (decide p) A B := br_dec (fun n => absurd n hp) fun _ => h
theorem br_not (h : br c B A) : br (!c) A B := by
  cases c with
  | true => unfold br at h ⊢; simpa using h
  | false => unfold br at h ⊢; simpa using h
end

/-! ### heaps -/
/-- all but a is as it was -/
def Chg (a : Addr) (H H' : Hp) : Prop := ∀ b o, b ≠ a → H b = some o → H' b = some o
theorem Chg.upd {H : Hp} {a : Addr} {o : HO} : Chg a H (upd H a o) := fun b u hb e => by rw [upd_ne hb]; exact e
theorem Same.upd {H : Hp} {a : Addr} {o : HO} (h : H a = none) : Same H (L2.upd H a o) := fun b u e => by rw [upd_ne (ne_of_none e h)]; exact e
theorem Same.chg {H0 H H' : Hp} {a : Addr} (s : Same H0 H) (n : H0 a = none) (c : Chg a H H') : Same H0 H' := fun b o e => c b o (ne_of_none e n) (s b o e)
theorem Chg.refl (a : Addr) (H : Hp) : Chg a H H := fun _ _ _ e => e
theorem Chg.trans {H H1 H2 : Hp} {a : Addr} (x : Chg a H H1) (y : Chg a H1 H2) : Chg a H H2 := fun b o h e => y b o h (x b o h e)
theorem Chg.same {H H1 H2 : Hp} {a : Addr} (x : Chg a H H1) (y : Same H1 H2) : Chg a H H2 := fun b o h e => y b o (x b o h e)
theorem Same.toChg {H H1 : Hp} {a : Addr} (x : Same H H1) : Chg a H H1 := fun b o _ e => x b o e
theorem Same.at {H H' : Hp} {b : Addr} {o : HO} (s : Same H H') (e : H b = some o) : H' b = some o := s b o e
theorem Chg.at {H H' : Hp} {a b : Addr} {o : HO} (s : Chg a H H') (e : H b = some o) (n : b ≠ a) : H' b = some o := s b o n e
/-! ### names -/
def qV (i : Nat) : TE := fun σ H Q => match σ[i]? with
  | some (some v) => Q v H
  | _ => False
section
variable {X : Cx}
theorem pq (i : Nat) {x : Str} {pos : Pos} (hN : X.N[i]? = some x := by rfl) (hv : Vis X.env.scope x := by first | exact Or.inl rfl | exact Or.inr (Or.inl rfl) | exact Or.inr (Or.inr rfl)) (hd : (x == ("__debug__" : Str)) = false := by decide)
    (hcd : (x == ("__classdict__" : Str)) = false := by decide) : PE X (.Name x pos) (qV i) := fun pins s σ H Q I h => by
  refine pe_var hN hv hd hcd pins s σ H Q I ?_
  unfold qV at h
  split at h
  · rename_i v e
    exact ⟨v, e, h⟩
  · exact h.elim

/-! ### arithmetic -/
@[irreducible] def rMulI (i j : Int) (H : Hp) (Q : VK) : Prop := IntMulOk i j ∧ Q (.int (i * j)) H
@[irreducible] def rDivI (i j : Int) (H : Hp) (Q : VK) : Prop := (j ≠ 0 ∧ j.natAbs.log2 < 9000) ∧ Q (.int (i.fdiv j)) H
@[irreducible] def rModI (i j : Int) (H : Hp) (Q : VK) : Prop := j ≠ 0 ∧ Q (.int (i.fmod j)) H
@[irreducible] def rPowI (i j : Int) (H : Hp) (Q : VK) : Prop := CPow i j ∧ Q (.int (i ^ j.toNat)) H
@[irreducible] def rCatL (a b : Addr) (H : Hp) (Q : VK) : Prop := ∃ xs zs, H a = some (.lst xs) ∧ H b = some (.lst zs) ∧ xs.length + zs.length ≤ sizeLine ∧
  ∀ p H', H p = none → Same H H' → H' p = some (.lst (xs ++ zs)) → Q (.ref p) H'
@[irreducible] def rRepL (a : Addr) (k : Int) (H : Hp) (Q : VK) : Prop := ∃ xs, H a = some (.lst xs) ∧ -(2 ^ 63) ≤ k ∧ k < 2 ^ 63 ∧ xs.length * k.toNat ≤ sizeLine ∧
  ∀ p H', H p = none → Same H H' → H' p = some (.lst (List.replicate k.toNat xs).flatten) → Q (.ref p) H'
def rAddM : R2 := fun x y H Q => match x, y with
  | .int i, .int j => Q (.int (i + j)) H
  | .ref a, .ref b => rCatL a b H Q
  | .str a, .str b => a.length + b.length ≤ sizeLine ∧ Q (.str (a ++ b)) H
  | _, _ => False
def rSubM : R2 := fun x y H Q => match x, y with
  | .int i, .int j => Q (.int (i - j)) H
  | _, _ => False
def rMulM : R2 := fun x y H Q => match x, y with
  | .int i, .int j => rMulI i j H Q
  | .ref a, .int k => rRepL a k H Q
  | _, _ => False
def rDivM : R2 := fun x y H Q => match x, y with
  | .int i, .int j => rDivI i j H Q
  | _, _ => False
def rModM : R2 := fun x y H Q => match x, y with
  | .int i, .int j => rModI i j H Q
  | _, _ => False
def rPowM : R2 := fun x y H Q => match x, y with
  | .int i, .int j => rPowI i j H Q
  | _, _ => False
theorem oAdd : OpR X (binaryOp .Add) rAddM := by
  intro pins s σ H x y v u Q I rx ry h
  unfold rAddM at h
  split at h
  · exact op_add pins s σ H _ _ v u Q I rx ry ⟨_, _, rfl, rfl, h⟩
  · unfold rCatL at h
    obtain ⟨xs, zs, h1, h2, h3, h4⟩ := h
    exact op_cat pins s σ H _ _ v u Q I rx ry ⟨_, _, xs, zs, rfl, rfl, h1, h2, h3, fun p hp => h4 p _ hp (Same.upd hp) upd_same⟩
  · exact op_add_str pins s σ H _ _ v u Q I rx ry ⟨_, _, rfl, rfl, h.1, h.2⟩
  · exact h.elim
theorem oSub : OpR X (binaryOp .Sub) rSubM := by
  intro pins s σ H x y v u Q I rx ry h
  unfold rSubM at h
  split at h
  · exact op_sub pins s σ H _ _ v u Q I rx ry ⟨_, _, rfl, rfl, h⟩
  · exact h.elim
theorem oMul : OpR X (binaryOp .Mult) rMulM := by
  intro pins s σ H x y v u Q I rx ry h
  unfold rMulM at h
  split at h
  · unfold rMulI at h
    obtain ⟨t, rfl⟩ := rx
    obtain ⟨t', rfl⟩ := ry
    exact mul_int ⟨.int _, H, I.tok _, ⟨_, rfl⟩, h.2⟩ h.1
  · unfold rRepL at h
    obtain ⟨xs, h1, h2, h3, h4, h5⟩ := h
    exact op_rep pins s σ H _ _ v u Q I rx ry ⟨_, _, xs, rfl, rfl, h1, h2, h3, h4, fun p hp => h5 p _ hp (Same.upd hp) upd_same⟩
  · exact h.elim
theorem oDiv : OpR X (binaryOp .FloorDiv) rDivM := by
  intro pins s σ H x y v u Q I rx ry h
  unfold rDivM at h
  split at h
  · unfold rDivI at h
    obtain ⟨⟨h1, h2⟩, h3⟩ := h
    obtain ⟨t, rfl⟩ := rx
    obtain ⟨t', rfl⟩ := ry
    exact floordiv_int h1 ⟨.int _, H, I.tok _, ⟨_, rfl⟩, h3⟩ (.inl (PyProof.noPylong_of_log2 h2))
  · exact h.elim
theorem oMod : OpR X (binaryOp .Mod) rModM := by
  intro pins s σ H x y v u Q I rx ry h
  unfold rModM at h
  split at h
  · unfold rModI at h
    exact op_modN pins s σ H _ _ v u Q I rx ry ⟨_, _, rfl, rfl, h.1, h.2⟩
  · exact h.elim
theorem oPow : OpR X (binaryOp .Pow) rPowM := by
  intro pins s σ H x y v u Q I rx ry h
  unfold rPowM at h
  split at h
  · unfold rPowI at h
    exact op_pow pins s σ H _ _ v u Q I rx ry ⟨_, _, rfl, rfl, h.1, h.2⟩
  · exact h.elim
def rNegM : V → Hp → VK → Prop := fun x H Q => match x with
  | .int i => Q (.int (-i)) H
  | _ => False
theorem uNeg : UnR X (unaryOp .USub) rNegM := by
  intro pins s σ H x v Q I rx h
  unfold rNegM at h
  split at h
  · exact un_neg pins s σ H _ v Q I rx ⟨_, rfl, h⟩
  · exact h.elim

/-! how they are read -/
section
variable {i j : Int} {H : Hp} {Q : VK}
theorem mul_rd (h : IntMulOk i j) (q : Q (.int (i * j)) H) : rMulI i j H Q := by unfold rMulI; exact ⟨h, q⟩
theorem log2_lt {n k : Nat} (h : n < 2 ^ k) (hk : 0 < k) : n.log2 < k := by
  by_cases h0 : n = 0
  · subst h0; simpa using hk
  · exact (Nat.log2_lt h0).mpr h
theorem big9000 {j : Int} (h1 : -(10 ^ 240) < j) (h2 : j < 10 ^ 240) : j.natAbs < 2 ^ 2000 := by
  have e : (10 : Int) ^ 240 = ((10 ^ 240 : Nat) : Int) := by norm_cast
  have e2 : (10 : Nat) ^ 240 < 2 ^ 2000 := by decide +kernel
  rw [e] at h1 h2
  generalize hN : (10 : Nat) ^ 240 = N at h1 h2 e2
  generalize hM : (2 : Nat) ^ 2000 = M at e2
  omega
theorem div_rd (h1 : 0 < j) (h2 : j < 10 ^ 240) (q : Q (.int (i / j)) H) : rDivI i j H Q := by
  unfold rDivI
  refine ⟨⟨by omega, ?_⟩, ?_⟩
  · have h := log2_lt (big9000 (j := j) (by have : (0 : Int) < 10 ^ 240 := by decide +kernel
                                            generalize (10 : Int) ^ 240 = N at this; omega) h2) (by decide)
    omega
  · rw [Int.fdiv_eq_ediv_of_nonneg _ (by omega)]; exact q
theorem mod_rd (h1 : 0 < j) (q : Q (.int (i % j)) H) : rModI i j H Q := by
  unfold rModI
  refine ⟨by omega, ?_⟩
  rw [Int.fmod_eq_emod_of_nonneg _ (by omega)]; exact q
theorem pow_rd (h : CPow i j) (q : Q (.int (i ^ j.toNat)) H) : rPowI i j H Q := by unfold rPowI; exact ⟨h, q⟩
theorem cat_rd {a b : Addr} {xs zs : List V} (h1 : H a = some (.lst xs)) (h2 : H b = some (.lst zs)) (h3 : xs.length + zs.length ≤ sizeLine)
    (q : ∀ p H', H p = none → Same H H' → H' p = some (.lst (xs ++ zs)) → Q (.ref p) H') : rCatL a b H Q := by unfold rCatL; exact ⟨xs, zs, h1, h2, h3, q⟩
end

/-! ### comparisons -/
def rLtM : R2 := fun x y H Q => match x, y with
  | .int i, .int j => Q (.bl (decide (i < j))) H
  | _, _ => False
def rLeM : R2 := fun x y H Q => match x, y with
  | .int i, .int j => Q (.bl (decide (i ≤ j))) H
  | _, _ => False
def rGtM : R2 := fun x y H Q => match x, y with
  | .int i, .int j => Q (.bl (decide (j < i))) H
  | _, _ => False
def rGeM : R2 := fun x y H Q => match x, y with
  | .int i, .int j => Q (.bl (decide (j ≤ i))) H
  | _, _ => False
theorem oLt : OpR X (compareOp .Lt) rLtM := by
  intro pins s σ H x y v u Q I rx ry h
  unfold rLtM at h
  split at h
  · exact op_lt pins s σ H _ _ v u Q I rx ry ⟨_, _, rfl, rfl, h⟩
  · exact h.elim
theorem oLe : OpR X (compareOp .LtE) rLeM := by
  intro pins s σ H x y v u Q I rx ry h
  unfold rLeM at h
  split at h
  · exact op_le pins s σ H _ _ v u Q I rx ry ⟨_, _, rfl, rfl, h⟩
  · exact h.elim
theorem oGt : OpR X (compareOp .Gt) rGtM := by
  intro pins s σ H x y v u Q I rx ry h
  unfold rGtM at h
  split at h
  · exact op_gt pins s σ H _ _ v u Q I rx ry ⟨_, _, rfl, rfl, h⟩
  · exact h.elim
theorem oGe : OpR X (compareOp .GtE) rGeM := by
  intro pins s σ H x y v u Q I rx ry h
  unfold rGeM at h
  split at h
  · exact op_ge pins s σ H _ _ v u Q I rx ry ⟨_, _, rfl, rfl, h⟩
  · exact h.elim
/-- == of two things, to a depth n -/
inductive EqR (K : PySem.W.Frag) (H : Hp) : Nat → V → V → Bool → Prop where
  | flat {n : Nat} {x y : V} (fx : flatV x = true) (fy : flatV y = true) : EqR K H n x y (eqV x y)
  | tup {n : Nat} {a b : Addr} {xs ys : List V} (e : Nat → Bool) (ha : SqT K H a xs) (hb : SqT K H b ys) (h : ∀ (j : Nat) (x y : V), xs[j]? = some x → ys[j]? = some y → EqR K H n x y (e j)) :
      EqR K H (n + 1) (.ref a) (.ref b) ((List.range (min xs.length ys.length)).all e && xs.length == ys.length)
  | lst {n : Nat} {a b : Addr} {xs ys : List V} (e : Nat → Bool) (ha : SqL K H a xs) (hb : SqL K H b ys) (hl : xs.length = ys.length) (h : ∀ (j : Nat) (x y : V), xs[j]? = some x → ys[j]? = some y → EqR K H n x y (e j)) :
      EqR K H (n + 1) (.ref a) (.ref b) ((List.range xs.length).all e)
  | lstN {n : Nat} {a b : Addr} {xs ys : List V} (ha : SqL K H a xs) (hb : SqL K H b ys) (hl : xs.length ≠ ys.length) : EqR K H (n + 1) (.ref a) (.ref b) false
theorem eqV_self {x : V} (f : flatV x = true) : eqV x x = true := by
  cases x <;> first | rfl | (simp [eqV]; done) | exact absurd (show false = true from f) Bool.false_ne_true
section
variable {pins : List (Addr × Obj)} {σ : St} {H : Hp} {s : Shared}
theorem EqR.self (I : Inv X pins σ H s) {n : Nat} {x y : V} {b : Bool} (h : EqR X.K H n x y b) : x = y → b = true := by
  induction h with
  | flat fx fy => rintro rfl; exact eqV_self fx
  | tup e ha hb h ih =>
    intro q
    cases q
    have q := I.tuple_inj ha hb
    subst q
    rw [Nat.min_self, Bool.and_eq_true]
    refine ⟨List.all_eq_true.mpr fun j hj => ?_, by simp⟩
    have hj := List.mem_range.mp hj
    exact ih j _ _ (List.getElem?_eq_getElem hj) (List.getElem?_eq_getElem hj) rfl
  | lst e ha hb hl h ih =>
    intro q
    cases q
    have q := I.list_inj ha hb
    subst q
    refine List.all_eq_true.mpr fun j hj => ?_
    have hj := List.mem_range.mp hj
    exact ih j _ _ (List.getElem?_eq_getElem hj) (List.getElem?_eq_getElem hj) rfl
  | lstN ha hb hl =>
    intro q
    cases q
    exact absurd (congrArg List.length (I.list_inj ha hb)) hl
theorem in1_units (A : Around) : A.in1.units = A.units + 1 := rfl
mutual
theorem EqR.at (I : Inv X pins σ H s) : ∀ {n : Nat} {x y : V} {b : Bool}, EqR X.K H n x y b → ∀ {u v : Value} {A : Around}, RelV x u → RelV y v → A.units + n < cLine → SeqAt.EqAt A s u v b
  | _, _, _, _, .flat fx fy, u, v, A, rx, ry, _ => eqAt_V rx ry fx fy
  | _, .ref a, .ref b, _, h, u, v, A, rx, ry, hu => by
    cases rx
    cases ry
    by_cases e : a = b
    · subst e
      rw [h.self I rfl]
      exact SeqAt.EqAt.same _
    · exact SeqAt.EqAt.of_refs e (EqR.rc I h hu)
theorem EqR.rc (I : Inv X pins σ H s) : ∀ {n : Nat} {a b : Addr} {c : Bool}, EqR X.K H n (.ref a) (.ref b) c → ∀ {A : Around}, A.units + n < cLine → SeqAt.RcAt A s (.ref a) (.ref b) c
  | _, _, _, _, .flat fx _, _, _ => absurd (show false = true from fx) Bool.false_ne_true
  | _, a, b, _, .tup (xs := xs) (ys := ys) e ha hb h, A, hu => by
    obtain ⟨its, r1, t1, z1⟩ := I.tuple ha
    obtain ⟨its2, r2, t2, z2⟩ := I.tuple hb
    have l1 : its.toArray.size = xs.length := by rw [List.size_toArray]; exact r1.length.symm
    have l2 : its2.toArray.size = ys.length := by rw [List.size_toArray]; exact r2.length.symm
    have q := SeqAt.RcAt.tuples (A := A) (e := e) t1 t2 (by omega) fun j h1 h2 => by
      rw [l1] at h1
      rw [l2] at h2
      obtain ⟨u1, e1, q1⟩ := r1.get (List.getElem?_eq_getElem h1)
      obtain ⟨u2, e2, q2⟩ := r2.get (List.getElem?_eq_getElem h2)
      have i1 : its.toArray[j] = u1 := by
        have := (List.getElem?_eq_some_iff.mp e1).2
        simpa using this
      have i2 : its2.toArray[j] = u2 := by
        have := (List.getElem?_eq_some_iff.mp e2).2
        simpa using this
      rw [i1, i2]
      exact EqR.at I (h j _ _ (List.getElem?_eq_getElem h1) (List.getElem?_eq_getElem h2)) q1 q2 (by rw [in1_units]; omega)
    rw [l1, l2] at q
    exact q
  | _, a, b, _, .lst (xs := xs) (ys := ys) e ha hb hl h, A, hu => by
    obtain ⟨its, r1, t1, z1⟩ := I.list ha
    obtain ⟨its2, r2, t2, z2⟩ := I.list hb
    have l1 : its.toArray.size = xs.length := by rw [List.size_toArray]; exact r1.length.symm
    have l2 : its2.toArray.size = ys.length := by rw [List.size_toArray]; exact r2.length.symm
    have q := SeqAt.RcAt.lists (A := A) (e := e) t1.isList t2.isList (by rw [l1, l2]; exact hl) (by omega) fun j h1 h2 => by
      rw [l1] at h1
      rw [l2] at h2
      obtain ⟨u1, e1, q1⟩ := r1.get (List.getElem?_eq_getElem h1)
      obtain ⟨u2, e2, q2⟩ := r2.get (List.getElem?_eq_getElem h2)
      have i1 : its.toArray[j] = u1 := by
        have := (List.getElem?_eq_some_iff.mp e1).2
        simpa using this
      have i2 : its2.toArray[j] = u2 := by
        have := (List.getElem?_eq_some_iff.mp e2).2
        simpa using this
      rw [i1, i2]
      exact EqR.at I (h j _ _ (List.getElem?_eq_getElem h1) (List.getElem?_eq_getElem h2)) q1 q2 (by rw [in1_units]; omega)
    rw [l1] at q
    exact q
  | _, a, b, _, .lstN (xs := xs) (ys := ys) ha hb hl, A, hu => by
    obtain ⟨its, r1, t1, z1⟩ := I.list ha
    obtain ⟨its2, r2, t2, z2⟩ := I.list hb
    have l1 : its.toArray.size = xs.length := by rw [List.size_toArray]; exact r1.length.symm
    have l2 : its2.toArray.size = ys.length := by rw [List.size_toArray]; exact r2.length.symm
    exact SeqAt.RcAt.lists_lengths t1.isList t2.isList (by rw [l1, l2]; simpa using hl) (by omega)
end
theorem EqR.rcNe (I : Inv X pins σ H s) : ∀ {n : Nat} {a b : Addr} {c : Bool}, EqR X.K H n (.ref a) (.ref b) c → ∀ {A : Around}, A.units + n < cLine → SeqAt.RcNeAt A s (.ref a) (.ref b) (!c)
  | _, _, _, _, .flat fx _, _, _ => absurd (show false = true from fx) Bool.false_ne_true
  | _, a, b, _, .tup (xs := xs) (ys := ys) e ha hb h, A, hu => by
    obtain ⟨its, r1, t1, z1⟩ := I.tuple ha
    obtain ⟨its2, r2, t2, z2⟩ := I.tuple hb
    have l1 : its.toArray.size = xs.length := by rw [List.size_toArray]; exact r1.length.symm
    have l2 : its2.toArray.size = ys.length := by rw [List.size_toArray]; exact r2.length.symm
    have q := SeqAt.RcNeAt.tuples (A := A) (e := e) t1 t2 (by omega) fun j h1 h2 => by
      rw [l1] at h1
      rw [l2] at h2
      obtain ⟨u1, e1, q1⟩ := r1.get (List.getElem?_eq_getElem h1)
      obtain ⟨u2, e2, q2⟩ := r2.get (List.getElem?_eq_getElem h2)
      have i1 : its.toArray[j] = u1 := by
        have := (List.getElem?_eq_some_iff.mp e1).2
        simpa using this
      have i2 : its2.toArray[j] = u2 := by
        have := (List.getElem?_eq_some_iff.mp e2).2
        simpa using this
      rw [i1, i2]
      exact EqR.at I (h j _ _ (List.getElem?_eq_getElem h1) (List.getElem?_eq_getElem h2)) q1 q2 (by rw [in1_units]; omega)
    rw [l1, l2] at q
    exact q
  | _, a, b, _, .lst (xs := xs) (ys := ys) e ha hb hl h, A, hu => by
    obtain ⟨its, r1, t1, z1⟩ := I.list ha
    obtain ⟨its2, r2, t2, z2⟩ := I.list hb
    have l1 : its.toArray.size = xs.length := by rw [List.size_toArray]; exact r1.length.symm
    have l2 : its2.toArray.size = ys.length := by rw [List.size_toArray]; exact r2.length.symm
    have q := SeqAt.RcNeAt.lists (A := A) (e := e) t1.isList t2.isList (by rw [l1, l2]; exact hl) (by omega) fun j h1 h2 => by
      rw [l1] at h1
      rw [l2] at h2
      obtain ⟨u1, e1, q1⟩ := r1.get (List.getElem?_eq_getElem h1)
      obtain ⟨u2, e2, q2⟩ := r2.get (List.getElem?_eq_getElem h2)
      have i1 : its.toArray[j] = u1 := by
        have := (List.getElem?_eq_some_iff.mp e1).2
        simpa using this
      have i2 : its2.toArray[j] = u2 := by
        have := (List.getElem?_eq_some_iff.mp e2).2
        simpa using this
      rw [i1, i2]
      exact EqR.at I (h j _ _ (List.getElem?_eq_getElem h1) (List.getElem?_eq_getElem h2)) q1 q2 (by rw [in1_units]; omega)
    rw [l1] at q
    exact q
  | _, a, b, _, .lstN (xs := xs) (ys := ys) ha hb hl, A, hu => by
    obtain ⟨its, r1, t1, z1⟩ := I.list ha
    obtain ⟨its2, r2, t2, z2⟩ := I.list hb
    have l1 : its.toArray.size = xs.length := by rw [List.size_toArray]; exact r1.length.symm
    have l2 : its2.toArray.size = ys.length := by rw [List.size_toArray]; exact r2.length.symm
    exact SeqAt.RcNeAt.lists_lengths t1.isList t2.isList (by rw [l1, l2]; simpa using hl) (by omega)
end
@[irreducible] def rEqO (K : PySem.W.Frag) (a b : Addr) (H : Hp) (Q : VK) : Prop := ∃ n c, n ≤ 40 ∧ EqR K H n (.ref a) (.ref b) c ∧ Q (.bl c) H
def rEqM (K : PySem.W.Frag) : R2 := fun x y H Q => match x, y with
  | .int i, .int j => Q (.bl (decide (i = j))) H
  | .bl i, .bl j => Q (.bl (decide (i = j))) H
  | .str i, .str j => Q (.bl (decide (i = j))) H
  | .ref a, .ref b => rEqO K a b H Q
  | x, y => scal x y = true ∧ Q (.bl (decide (x = y))) H
def rNeM (K : PySem.W.Frag) : R2 := fun x y H Q => rEqM K x y H fun v H' => match v with
  | .bl b => Q (.bl (!b)) H'
  | _ => False
theorem dec_inj {α β : Type} [DecidableEq α] [DecidableEq β] {f : α → β} (hf : ∀ a b, f a = f b → a = b) (a b : α) : decide (f a = f b) = decide (a = b) := by
  by_cases h : a = b
  · subst h; simp
  · rw [decide_eq_false h, decide_eq_false fun e => h (hf _ _ e)]
theorem oEq (hu : X.A.units + 40 < cLine) : OpR X (compareOp .Eq) (rEqM X.K) := by
  intro pins s σ H x y v u Q I rx ry h
  unfold rEqM at h
  split at h
  · rename_i i j
    exact op_eq pins s σ H _ _ v u Q I rx ry ⟨rfl, by rw [dec_inj (f := V.int) fun a b e => V.int.inj e]; exact h⟩
  · exact op_eq pins s σ H _ _ v u Q I rx ry ⟨rfl, by rw [dec_inj (f := V.bl) fun a b e => V.bl.inj e]; exact h⟩
  · exact op_eq pins s σ H _ _ v u Q I rx ry ⟨rfl, by rw [dec_inj (f := V.str) fun a b e => V.str.inj e]; exact h⟩
  · unfold rEqO at h
    obtain ⟨n, c, hn, h1, h2⟩ := h
    cases rx
    cases ry
    exact EqR.rc I h1 (A := X.A) (by omega) _ _ _ _ ⟨.bl c, H, I, rfl, h2⟩
  · exact op_eq pins s σ H _ _ v u Q I rx ry h
theorem oNe (hu : X.A.units + 40 < cLine) : OpR X (compareOp .NotEq) (rNeM X.K) := by
  intro pins s σ H x y v u Q I rx ry h
  unfold rNeM rEqM at h
  split at h
  · rename_i i j
    exact op_ne pins s σ H _ _ v u Q I rx ry ⟨rfl, by rw [dec_inj (f := V.int) fun a b e => V.int.inj e]; exact h⟩
  · exact op_ne pins s σ H _ _ v u Q I rx ry ⟨rfl, by rw [dec_inj (f := V.bl) fun a b e => V.bl.inj e]; exact h⟩
  · exact op_ne pins s σ H _ _ v u Q I rx ry ⟨rfl, by rw [dec_inj (f := V.str) fun a b e => V.str.inj e]; exact h⟩
  · unfold rEqO at h
    obtain ⟨n, c, hn, h1, h2⟩ := h
    cases rx
    cases ry
    exact EqR.rcNe I h1 (A := X.A) (by omega) _ _ _ _ ⟨.bl (!c), H, I, rfl, h2⟩
  · exact op_ne pins s σ H _ _ v u Q I rx ry ⟨h.1, h.2⟩
section
variable {K : PySem.W.Frag} {H : Hp} {Q : VK} {a b : Addr} {c : Bool} {n : Nat}
theorem eqO_rd (h : EqR K H n (.ref a) (.ref b) c) (q : Q (.bl c) H) (hn : n ≤ 40 := by decide) : rEqO K a b H Q := by unfold rEqO; exact ⟨n, c, hn, h, q⟩
end

/-! ### tests, and, or, not, if -/
/-- a value's truth -/
def qB (t : TE) : TT := fun σ H Q => t σ H fun x H1 => match x with
  | .bl c => Q c H1
  | .int i => Q (!decide (i = 0)) H1
  | _ => False
theorem ptV {e : Expr} {t : TE} (h : PE X e t) (he : ∀ whole, isTrue e X.env whole = (do let v ← whole; standAt e.pos; holding [v] (truthy v)) := by intro _; rfl) : PT X e (qB t) := fun pins s σ H Q I hw => by
  refine isTrue_plain (thn (h pins s σ H _ I hw) fun v s1 ⟨x, H1, I1, r1, q1⟩ => ?_) (he _)
  dsimp only at q1
  split at q1
  · exact tru_ok pins s1 σ H1 _ v Q I1 r1 ⟨_, rfl, q1⟩
  · rename_i i
    refine tru_ok pins s1 σ H1 _ v Q I1 r1 ⟨_, rfl, ?_⟩
    have e : (i != 0) = !decide (i = 0) := by by_cases h : i = 0 <;> simp [h]
    rw [e]; exact q1
  · exact q1.elim
theorem ptC {a b : Expr} {ta tb : TE} {pos : Pos} {op : CmpOp} {r : R2} (ho : OpR X (compareOp op) r) (ha : PE X a ta) (hb : PE X b tb) (hm : behindInMarks op b = false := by first | exact nomark _ | with_unfolding_all rfl) : PT X (.Compare a [op] [b] pos) (qB (tOp r ta tb)) := by
  intro pins s σ H Q I h
  refine wpAny_isTrue_Compare1 (thn (ha pins s σ H _ I h) fun v s1 ⟨x, H1, I1, r1, q1⟩ => thn (hb pins s1 σ H1 _ I1 q1) fun u s2 ⟨y, H2, I2, r2, q2⟩ =>
    thn (ho pins s2 σ H2 x y v u _ I2 r1 r2 q2) fun c s3 ⟨z, H3, I3, r3, q3⟩ => ?_) hm
  dsimp only at q3
  split at q3
  · cases r3
    exact wpAny_truthy_bool ⟨H3, I3, q3⟩
  · rename_i i
    refine tru_ok pins s3 σ H3 _ c Q I3 r3 ⟨_, rfl, ?_⟩
    have e : (i != 0) = !decide (i = 0) := by by_cases h : i = 0 <;> simp [h]
    rw [e]; exact q3
  · exact q3.elim
theorem peC {a b : Expr} {ta tb : TE} {pos : Pos} {op : CmpOp} {r : R2} (ho : OpR X (compareOp op) r) (ha : PE X a ta) (hb : PE X b tb) (hm : behindInMarks op b = false := by first | exact nomark _ | with_unfolding_all rfl) : PE X (.Compare a [op] [b] pos) (tOp r ta tb) :=
  pe_cmpR ho ha hb hm

variable {a b : Expr} {rest : List Expr} {tA tB' : TT} {ta tb : TE} {pos : Pos}
def qAnd (t u : TT) : TT := fun σ H Q => t σ H fun c H1 => br c (u σ H1 Q) (Q false H1)
def qOr (t u : TT) : TT := fun σ H Q => t σ H fun c H1 => br c (Q true H1) (u σ H1 Q)
theorem pwAnd (ha : PT X a tA) (hb : PW X (.BoolOp .And (b :: rest) pos) tB') : PW X (.BoolOp .And (a :: b :: rest) pos) (qAnd tA tB') := fun wh pins s σ H Q I h =>
  pw_and ha hb wh pins s σ H Q I (by unfold qAnd at h; simp only [br_iff] at h; exact h)
theorem pwOr (ha : PT X a tA) (hb : PW X (.BoolOp .Or (b :: rest) pos) tB') : PW X (.BoolOp .Or (a :: b :: rest) pos) (qOr tA tB') := fun wh pins s σ H Q I h =>
  pw_or ha hb wh pins s σ H Q I (by unfold qOr at h; simp only [br_iff] at h; exact h)
def qAndV (ta tb : TE) : TE := fun σ H Q => ta σ H fun x H1 => match x with
  | .bl c => br c (tb σ H1 Q) (Q (.bl false) H1)
  | _ => False
def qOrV (ta tb : TE) : TE := fun σ H Q => ta σ H fun x H1 => match x with
  | .bl c => br c (Q (.bl true) H1) (tb σ H1 Q)
  | _ => False
theorem peAnd (ha : PE X a ta) (hb : PE X (.BoolOp .And (b :: rest) pos) tb) : PE X (.BoolOp .And (a :: b :: rest) pos) (qAndV ta tb) := by
  intro pins s σ H Q I h
  refine BoolOp_and (thn (ha pins s σ H _ I h) fun v s1 ⟨x, H1, I1, r1, q1⟩ => ?_)
  dsimp only at q1
  split at q1
  · rename_i c
    cases r1
    refine wpAny_truthy_bool ?_
    rw [br_iff] at q1
    cases c with
    | true => exact hb pins s1 σ H1 Q I1 (by simpa using q1)
    | false => exact ⟨.bl false, H1, I1, rfl, by simpa using q1⟩
  · exact q1.elim
theorem peOr (ha : PE X a ta) (hb : PE X (.BoolOp .Or (b :: rest) pos) tb) : PE X (.BoolOp .Or (a :: b :: rest) pos) (qOrV ta tb) := by
  intro pins s σ H Q I h
  refine BoolOp_or (thn (ha pins s σ H _ I h) fun v s1 ⟨x, H1, I1, r1, q1⟩ => ?_)
  dsimp only at q1
  split at q1
  · rename_i c
    cases r1
    refine wpAny_truthy_bool ?_
    rw [br_iff] at q1
    cases c with
    | false => exact hb pins s1 σ H1 Q I1 (by simpa using q1)
    | true => exact ⟨.bl true, H1, I1, rfl, by simpa using q1⟩
  · exact q1.elim
def qIf (t : TT) (ta tb : TE) : TE := fun σ H Q => t σ H fun c H1 => br c (ta σ H1 Q) (tb σ H1 Q)
theorem peIf {c : Expr} (hc : PT X c tA) (ha : PE X a ta) (hb : PE X b tb) : PE X (.IfExp c a b pos) (qIf tA ta tb) := fun pins s σ H Q I h =>
  pe_ifExp hc ha hb pins s σ H Q I (by unfold qIf at h; simp only [br_iff] at h; exact h)
/-! ### statements -/
variable {st : Stmt} {t u : TS} {e : Expr} {te : TE}
def qIfS (c : TT) (t u : TS) : TS := fun D σ H => c σ H fun b H1 => br b (t D σ H1) (u D σ H1)
theorem psIf {c : Expr} {a b : List Stmt} {tc : TT} (hc : PT X c tc) (ha : PSs X a t) (hb : PSs X b u) : PS X (.If c a b pos) (qIfS tc t u) := fun pins s σ H D I h =>
  ps_if hc ha hb pins s σ H D I (by unfold qIfS at h; simp only [br_iff] at h; exact h)
@[irreducible] def loopW (J : It) (g : TG) (tb : TS) (D : Ends) (σ : St) (H1 : Hp) : Prop := ∃ W : Nat → Nat → St → Hp → Prop, (∃ m, W 0 m σ H1) ∧ ∀ i m σ H, W i m σ H →
  (J.stop i H ∧ D.nx σ H) ∨ (J.go i H ∧ ∃ N : St → Hp → Prop, (∀ σ' H', N σ' H' → ∃ m', m' < m ∧ W (i + 1) m' σ' H') ∧ ∀ x H', J.yld i H x H' → g x σ H' fun σ2 H2 => tb { D with nx := N, ct := N, bk := D.nx } σ2 H2)
def qFor (wi : TI) (g : TG) (tb : TS) : TS := fun D σ H => wi σ H fun J H1 => loopW J g tb D σ H1
theorem psFor {iter tg : Expr} {body : List Stmt} {wi : TI} {g : TG} {tb : TS} {pos : Pos} (hp : PassesOwn (model X.prog X.w) X.A X.env X.xe) (hc : X.calm = true) (hi : PI X tg iter wi) (hg : PG X tg g) (hb : PSs X body tb)
    (hs : ∀ x, foldedSetIterable iter X.env x = pure x := by intro _; rfl) : PS X (.For tg iter body [] pos) (qFor wi g tb) := fun pins s σ H D I h =>
  ps_for hp hc hi hg hb hs pins s σ H D I (by unfold qFor at h; unfold loopW at h; exact h)
@[irreducible] def rIter (K : PySem.W.Frag) (a : Addr) (H : Hp) (R : It → Hp → Prop) : Prop := ((∃ xs, SqL K H a xs) ∧ R (Itl K a) H) ∨ ((∃ xs, SqT K H a xs) ∧ R (Itt K a) H)
def qiSeq (K : PySem.W.Frag) (tl : TE) : TI := fun σ H R => tl σ H fun x H1 => match x with
  | .ref a => rIter K a H1 R
  | _ => False
theorem piSeq {tg l : Expr} {tl : TE} (hl : PE X l tl) : PI X tg l (qiSeq X.K tl) := by
  intro pins s σ H R I h
  refine thn (hl pins s σ H _ I h) fun v s1 ⟨x, H1, I1, r1, q1⟩ => ?_
  dsimp only at q1
  split at q1
  · rename_i a
    unfold rIter at q1
    cases r1
    have fp : ∀ b ∈ [s1.heap.objs.size], FpOk X pins H1 b := fun b hb => by
      have e : b = s1.heap.objs.size := by simpa using hb
      subst e
      exact I1.fpOk (Nat.le_refl _) (I1.hok.fresh (Nat.le_refl _))
    rcases q1 with ⟨⟨xs, hq⟩, q⟩ | ⟨⟨xs, hq⟩, q⟩
    · obtain ⟨its, rv, p, hz⟩ := I1.list hq
      refine wpAny_pyIter_list p.isList ?_
      exact ⟨s1.heap.objs.size, [s1.heap.objs.size], _, _, H1, rfl, I1.kept (t' := s1.toks) fun b o e => Heap.get?_push_of_some _ e, turn_list a _, ⟨_, Heap.get?_push_size _ rfl, rfl, rfl⟩, fp, q⟩
    · obtain ⟨its, rv, p, hz⟩ := I1.tuple hq
      refine wpAny_pyIter_tuple (show s1.heap.IsTuple a its.toArray from p) ?_
      exact ⟨s1.heap.objs.size, [s1.heap.objs.size], _, _, H1, rfl, I1.kept (t' := s1.toks) fun b o e => Heap.get?_push_of_some _ e, turn_tuple a _, ⟨_, Heap.get?_push_size _ rfl, rfl, rfl⟩, fp, q⟩
  · exact q1.elim
@[irreducible] def rRange (i j : Int) (H : Hp) (R : It → Hp → Prop) : Prop := (-(2 ^ 62) ≤ i ∧ i < 2 ^ 62 ∧ -(2 ^ 62) ≤ j ∧ j < 2 ^ 62) ∧ R (Itr i (j - i).toNat) H
def qiRng (ta : TA) : TI := fun σ H R => ta σ H fun vs H1 => match vs with
  | [.int j] => rRange 0 j H1 R
  | [.int i, .int j] => rRange i j H1 R
  | _ => False
theorem piRng1 {tg a : Expr} {ta : TA} {p pos : Pos} (hm : X.mg "range" = none) (ha : PA X [a] ta) (hg : Gl X "range" := by rfl) (hs : starEach [a] X.env = [(false, eval a X.env)] := by rfl) : PI X tg (.Call (.Name "range" p) [a] [] pos) (qiRng ta) := by
  intro pins s σ H R I h
  refine Call_ (ld_blt I hg hm boot_range (PyProof.Rows.callWith_type1 (thn (ha pos pins s σ H _ I h) fun us s1 ⟨vs, H1, I1, r1, q1⟩ => ?_) hs rfl))
  dsimp only at q1
  split at q1
  · unfold rRange at q1
    obtain ⟨⟨a1, a2, a3, a4⟩, q⟩ := q1
    cases r1 with
    | cons r rr =>
      cases rr
      obtain ⟨t, rfl⟩ := r
      exact call_range_1 (range_it I1 a1 a2 a3 a4 q)
  · unfold rRange at q1
    cases r1 with
    | cons r rr =>
      cases rr with
      | cons r' rr =>
        cases rr
        obtain ⟨t, rfl⟩ := r
        obtain ⟨t', rfl⟩ := r'
        obtain ⟨⟨a1, a2, a3, a4⟩, q⟩ := q1
        exact call_range_2 (range_it I1 a1 a2 a3 a4 q)
  · exact q1.elim
/-! the loops' readings -/
section
variable {K : PySem.W.Frag} {g : TG} {tb : TS} {D : Ends} {σ : St} {H : Hp} {R : It → Hp → Prop}
theorem iterL_rd {a : Addr} {xs : List V} (h : H a = some (.lst xs)) (q : R (Itl K a) H) : rIter K a H R := by unfold rIter; exact .inl ⟨⟨xs, SqL.of h⟩, q⟩
theorem range_rd {i j : Int} (h1 : -(2 ^ 62) ≤ i) (h2 : i < 2 ^ 62) (h3 : -(2 ^ 62) ≤ j) (h4 : j < 2 ^ 62) (q : R (Itr i (j - i).toNat) H) : rRange i j H R := by unfold rRange; exact ⟨⟨h1, h2, h3, h4⟩, q⟩
theorem loop_list {a : Addr} {xs : List V} (Pv : Nat → St → Hp → Prop) (h0 : Pv 0 σ H) (hl : ∀ i σ H, i ≤ xs.length → Pv i σ H → SqL K H a xs)
    (hs : ∀ i x σ H, xs[i]? = some x → Pv i σ H → g x σ H fun σ2 H2 => tb { D with nx := Pv (i + 1), ct := Pv (i + 1), bk := D.nx } σ2 H2) (hd : ∀ σ H, Pv xs.length σ H → D.nx σ H) : loopW (Itl K a) g tb D σ H := by
  unfold loopW; exact for_list Pv h0 hl hs hd
theorem loop_range {lo : Int} {n : Nat} (Pv : Nat → St → Hp → Prop) (h0 : Pv 0 σ H)
    (hs : ∀ i σ H, i < n → Pv i σ H → g (.int (lo + i)) σ H fun σ2 H2 => tb { D with nx := Pv (i + 1), ct := Pv (i + 1), bk := D.nx } σ2 H2) (hd : ∀ σ H, Pv n σ H → D.nx σ H) : loopW (Itr lo n) g tb D σ H := by
  unfold loopW; exact for_range Pv h0 hs hd
end
/-! while -/
section
variable {c : TT} {tb : TS} {D : Ends} {σ : St} {H H1 : Hp} {W : Nat → St → Hp → Prop} {m : Nat} {p : Prop}
end

/-! ### displays, index, store, slices -/
@[irreducible] def rNewT (xs : List V) (H : Hp) (Q : VK) : Prop := xs.length ≤ sizeLine ∧ ∀ p H', H p = none → Same H H' → H' p = some (.tup xs) → Q (.ref p) H'
@[irreducible] def rNewL (xs : List V) (H : Hp) (Q : VK) : Prop := xs.length ≤ sizeLine ∧ ∀ p H', H p = none → Same H H' → H' p = some (.lst xs) → Q (.ref p) H'
def qTup (t : TA) : TE := fun σ H Q => t σ H fun xs H1 => rNewT xs H1 Q
def qLst (t : TA) : TE := fun σ H Q => t σ H fun xs H1 => rNewL xs H1 Q
theorem peTup {es : List Expr} {x1} {t : TA} (h : PA X es t) : PE X (.Tuple es x1 pos) (qTup t) := by
  intro pins s σ H Q I hq
  refine wpAny_Tuple_spliced (thn (h pos pins s σ H _ I hq) fun us s1 ⟨xs, H1, I1, r, z⟩ => ?_)
  unfold rNewT at z
  obtain ⟨z, q⟩ := z
  refine ⟨by rw [← r.length]; exact z, ?_⟩
  have hf : H1 s1.heap.objs.size = none := I1.hok.fresh (Nat.le_refl _)
  refine ⟨.ref s1.heap.objs.size, upd H1 s1.heap.objs.size (.tup xs), I1.laid (t' := s1.toks) (fun b u e => Heap.get?_push_of_some _ e) (Nat.le_refl _) ?_, rfl, q _ _ hf (Same.upd hf) upd_same⟩
  exact ⟨z, us, r, ⟨_, Heap.get?_push_size _ rfl, rfl, _, rfl⟩⟩
theorem peLst {es : List Expr} {t : TA} (h : PA X es t) : PE X (.List es pos) (qLst t) := by
  intro pins s σ H Q I hq
  refine wpAny_List_spliced (thn (h pos pins s σ H _ I hq) fun us s1 ⟨xs, H1, I1, r, z⟩ => ?_)
  unfold rNewL at z
  obtain ⟨z, q⟩ := z
  refine ⟨by rw [← r.length]; exact z, ?_⟩
  have hf : H1 s1.heap.objs.size = none := I1.hok.fresh (Nat.le_refl _)
  refine ⟨.ref s1.heap.objs.size, upd H1 s1.heap.objs.size (.lst xs), I1.laid (t' := s1.toks) (fun b u e => Heap.get?_push_of_some _ e) (Nat.le_refl _) ?_, rfl, q _ _ hf (Same.upd hf) upd_same⟩
  exact ⟨z, us, 0, r, Heap.get?_push_size _ rfl⟩
@[irreducible] def rIxA (K : PySem.W.Frag) (p : Addr) (i : Int) (H : Hp) (Q : VK) : Prop := ∃ xs v, (SqL K H p xs ∨ SqT K H p xs) ∧ atI xs i = some v ∧ Q v H
def rIxM (K : PySem.W.Frag) : R2 := fun x y H Q => match x, y with
  | .ref p, .int i => rIxA K p i H Q
  | .str z, .int i => ∃ c, z.length ≤ sizeLine ∧ atI z.cps.toList i = some c ∧ Q (.str ⟨#[c]⟩) H
  | _, _ => False
theorem ixM : IxR X (rIxM X.K) := by
  intro value slice pins s σ H x y v u Q I rx ry h hs
  unfold rIxM at h
  split at h
  · unfold rIxA at h
    obtain ⟨xs, z, h1, h2, q⟩ := h
    rcases h1 with h1 | h1
    · exact ix_list value slice pins s σ H _ _ v u Q I rx ry ⟨_, xs, _, z, rfl, rfl, h1, h2, q⟩ hs
    · exact ix_tup value slice pins s σ H _ _ v u Q I rx ry ⟨_, xs, _, z, rfl, rfl, h1, h2, q⟩ hs
  · obtain ⟨c, h1, h2, q⟩ := h
    exact ix_str value slice pins s σ H _ _ v u Q I rx ry ⟨_, _, c, rfl, rfl, h1, h2, q⟩ hs
  · exact h.elim
theorem peIx (ha : PE X a ta) (hb : PE X b tb) (hs : PlainIx b := by exact fun _ _ => rfl) : PE X (.Subscript a b pos) (tOp (rIxM X.K) ta tb) := pe_ix ixM ha hb hs
@[irreducible] def rSetA (p : Addr) (k : Int) (v : V) (H : Hp) (Q : Hp → Prop) : Prop := ∃ xs j, H p = some (.lst xs) ∧ ixN xs.length k = some j ∧ ∀ H', Chg p H H' → H' p = some (.lst (xs.set j v)) → Q H'
def rSetM : TSet := fun o i v H Q => match o, i with
  | .ref p, .int k => rSetA p k v H Q
  | _, _ => False
theorem setM : PSet X rSetM := by
  intro pins s σ H o i v ov iv u Q I ro ri rv h
  unfold rSetM at h
  split at h
  · unfold rSetA at h
    obtain ⟨xs, j, h1, h2, q⟩ := h
    exact set_list pins s σ H _ _ v ov iv u Q I ro ri rv ⟨_, xs, _, j, rfl, rfl, h1, h2, q _ Chg.upd upd_same⟩
  · exact h.elim
def qPart (t : TE) : TO := fun σ H Q => t σ H fun x H1 => match x with
  | .int i => Q (some i) H1
  | _ => False
theorem poSome (h : PE X e te) : PO X (some e) (qPart te) := by
  intro pins s σ H Q I hw
  rw [evalPart_some]
  refine thn (h pins s σ H _ I hw) fun u s1 ⟨x, H1, I1, r1, q1⟩ => ?_
  dsimp only at q1
  split at q1
  · rename_i i
    obtain ⟨t, rfl⟩ := r1
    exact ⟨some i, H1, I1, .int i t, q1⟩
  · exact q1.elim
section
variable {K : PySem.W.Frag} {H : Hp} {Q : VK} {p : Addr} {xs : List V} {v : V} {i : Int}
theorem newT_rd (q : ∀ p H', H p = none → Same H H' → H' p = some (.tup xs) → Q (.ref p) H') (h : xs.length ≤ sizeLine := by first | assumption | (simp only [List.length_cons, List.length_nil, Nat.zero_add, Nat.reduceAdd]; decide)) : rNewT xs H Q := by unfold rNewT; exact ⟨h, q⟩
theorem newL_rd (q : ∀ p H', H p = none → Same H H' → H' p = some (.lst xs) → Q (.ref p) H') (h : xs.length ≤ sizeLine := by first | assumption | (simp only [List.length_cons, List.length_nil, Nat.zero_add, Nat.reduceAdd]; decide)) : rNewL xs H Q := by unfold rNewL; exact ⟨h, q⟩
theorem ixT_rd (h : H p = some (.tup xs)) (e : atI xs i = some v) (q : Q v H) : rIxA K p i H Q := by unfold rIxA; exact ⟨xs, v, .inr (SqT.of h), e, q⟩
theorem ixL_rd (h : H p = some (.lst xs)) (e : atI xs i = some v) (q : Q v H) : rIxA K p i H Q := by unfold rIxA; exact ⟨xs, v, .inl (SqL.of h), e, q⟩
theorem set_rd {R : Hp → Prop} {j : Nat} (h : H p = some (.lst xs)) (e : ixN xs.length i = some j) (q : ∀ H', Chg p H H' → H' p = some (.lst (xs.set j v)) → R H') : rSetA p i v H R := by unfold rSetA; exact ⟨xs, j, h, e, q⟩
end

/-! ### tuple targets -/
def qgNil : TGs := fun vs σ H Q => match vs with
  | [] => Q σ H
  | _ => False
def qgCons (t : TG) (u : TGs) : TGs := fun vs σ H Q => match vs with
  | v :: r => t v σ H fun σ' H' => u r σ' H' Q
  | _ => False
theorem pgsNil : PGs X [] qgNil := fun pins s σ H vs us Q I r h => by
  unfold qgNil at h
  split at h
  · exact pgs_nil pins s σ H _ us Q I r ⟨rfl, h⟩
  · exact h.elim
theorem pgsCons {e : Expr} {es : List Expr} {t : TG} {u : TGs} (h1 : PG X e t) (h2 : PGs X es u)
    (hs : (assignEach (e :: es) X.env).map (·.2) = assign e X.env :: (assignEach es X.env).map (·.2) := by rfl) : PGs X (e :: es) (qgCons t u) := fun pins s σ H vs us Q I r h => by
  unfold qgCons at h
  split at h
  · exact pgs_cons h1 h2 hs pins s σ H _ us Q I r ⟨_, _, rfl, h⟩
  · exact h.elim
end
end L2

set_option Elab.async false
set_option linter.all false
set_option maxRecDepth 100000
set_option maxHeartbeats 1000000
namespace L2
open PySem PySem.Spec PyProof.Rows
section
variable {X : Cx}
/-! ### built-in calls, by values -/
def rAbsM : List V → Hp → VK → Prop := fun xs H Q => match xs with
  | [.int i] => Q (.int (i.natAbs : Int)) H
  | _ => False
def rIntM : List V → Hp → VK → Prop := fun xs H Q => match xs with
  | [.int i] => Q (.int i) H
  | [.bl k] => Q (.int (if k = true then 1 else 0)) H
  | _ => False
theorem cInt : CallR X (.type "int") rIntM := fun pins s σ H xs us Q I r h => by
  unfold rIntM at h
  split at h
  · exact call_int1 pins s σ H _ us Q I r (.inl ⟨_, rfl, h⟩)
  · exact call_int1 pins s σ H _ us Q I r (.inr ⟨_, rfl, h⟩)
  · exact h.elim
@[irreducible] def rLenA (K : PySem.W.Frag) (p : Addr) (H : Hp) (Q : VK) : Prop := ∃ ys, (SqL K H p ys ∨ SqT K H p ys) ∧ Q (.int ys.length) H
def rLenM (K : PySem.W.Frag) : List V → Hp → VK → Prop := fun xs H Q => match xs with
  | [.ref p] => rLenA K p H Q
  | [.str z] => z.length ≤ sizeLine ∧ Q (.int z.length) H
  | _ => False
theorem cLen : CallR X (.builtin "len") (rLenM X.K) := fun pins s σ H xs us Q I r h => by
  unfold rLenM at h
  split at h
  · unfold rLenA at h
    obtain ⟨ys, h1, h2⟩ := h
    exact call_len_seq pins s σ H _ us Q I r ⟨_, ys, rfl, h1, h2⟩
  · exact call_len_str pins s σ H _ us Q I r ⟨_, rfl, h.1, h.2⟩
  · exact h.elim
@[irreducible] def rIsiA (K : PySem.W.Frag) (x c : V) (H : Hp) (Q : VK) : Prop := ∃ t b, TyOf K H x t ∧ (∀ cv, RelV c cv → PySem.W.kitOne K t cv = some b) ∧ Q (.bl b) H
def rIsiM (K : PySem.W.Frag) : List V → Hp → VK → Prop := fun xs H Q => match xs with
  | [x, c] => rIsiA K x c H Q
  | _ => False
theorem cIsi : CallR X (.builtin "isinstance") (rIsiM X.K) := fun pins s σ H xs us Q I r h => by
  unfold rIsiM at h
  split at h
  · unfold rIsiA at h
    obtain ⟨t, b, h1, h2, h3⟩ := h
    obtain ⟨u, w, rfl, r1, r2⟩ := vals2 r
    exact isinst_ok I r1 h1 (h2 _ r2) fun tk => ⟨.bl b, H, I.tok _, rfl, h3⟩
  · exact h.elim
section
variable {K : PySem.W.Frag} {H : Hp} {Q : VK} {p : Addr} {xs : List V}
theorem lenL_rd (h : H p = some (.lst xs)) (q : Q (.int xs.length) H) : rLenA K p H Q := by unfold rLenA; exact ⟨xs, .inl (SqL.of h), q⟩
theorem lenT_rd (h : H p = some (.tup xs)) (q : Q (.int xs.length) H) : rLenA K p H Q := by unfold rLenA; exact ⟨xs, .inr (SqT.of h), q⟩
theorem isiI_rd {i : Int} {n : String} {b : Bool} (q : Q (.bl b) H) (e : PySem.W.kitOne K (.type "int") (.type n) = some b := by rfl) : rIsiA K (.int i) (.ty n) H Q := by
  unfold rIsiA; exact ⟨_, b, .int i, fun cv r => by cases r; exact e, q⟩
theorem isiB_rd {i : Bool} {n : String} {b : Bool} (q : Q (.bl b) H) (e : PySem.W.kitOne K (.type "bool") (.type n) = some b := by rfl) : rIsiA K (.bl i) (.ty n) H Q := by
  unfold rIsiA; exact ⟨_, b, .bl i, fun cv r => by cases r; exact e, q⟩
theorem isiT_rd {n : String} {b : Bool} (h : H p = some (.tup xs)) (q : Q (.bl b) H) (e : PySem.W.kitOne K (.type "tuple") (.type n) = some b := by rfl) : rIsiA K (.ref p) (.ty n) H Q := by
  unfold rIsiA; exact ⟨_, b, .tup h, fun cv r => by cases r; exact e, q⟩
theorem isiL_rd {n : String} {b : Bool} (h : H p = some (.lst xs)) (q : Q (.bl b) H) (e : PySem.W.kitOne K (.type "list") (.type n) = some b := by rfl) : rIsiA K (.ref p) (.ty n) H Q := by
  unfold rIsiA; exact ⟨_, b, .lst h, fun cv r => by cases r; exact e, q⟩
end
/-! the names of the built-ins -/
theorem bt_len : bootBuiltins "len" = some (.builtin "len") := by decide +kernel
theorem bt_all : bootBuiltins "all" = some (.builtin "all") := by decide +kernel
theorem bt_isinstance : bootBuiltins "isinstance" = some (.builtin "isinstance") := by decide +kernel
theorem bt_int : bootBuiltins "int" = some (.type "int") := by decide +kernel
theorem bt_bool : bootBuiltins "bool" = some (.type "bool") := by decide +kernel
theorem bt_str : bootBuiltins "str" = some (.type "str") := by decide +kernel
theorem bt_tuple : bootBuiltins "tuple" = some (.type "tuple") := by decide +kernel
theorem pTy {x : Str} {n : String} {pos : Pos} (hm : X.mg x = none) (hv : bootBuiltins x = some (.type n)) (hg : Gl X x := by rfl) (hn : x ≠ "__name__" := by decide) (hd : (x == ("__debug__" : Str)) = false := by decide) : PE X (.Name x pos) (tC (.ty n)) :=
  pe_bltn hg hm hv rfl hn hd
theorem pB {x : Str} {p pos : Pos} {e : Expr} {es : List Expr} {t : TA} {id : String} {r : List V → Hp → VK → Prop} (hc : CallR X (.builtin id) r) (hm : X.mg x = none) (hv : bootBuiltins x = some (.builtin id)) (ha : PA X (e :: es) t) (hg : Gl X x := by rfl) (hn : x ≠ "__name__" := by decide) (hdb : (x == ("__debug__" : Str)) = false := by decide)
    (he : starEach (e :: es) X.env = (false, eval e X.env) :: starEach es X.env := by rfl) (hpl : (backTo pos (starEach es X.env)).any (·.1) = false := by rfl) : PE X (.Call (.Name x p) (e :: es) [] pos) (tCB r t) := pe_callB hc hg hm hv ha hn hdb he hpl
theorem pT {x : Str} {p pos : Pos} {e : Expr} {es : List Expr} {t : TA} {id : String} {r : List V → Hp → VK → Prop} (hc : CallR X (.type id) r) (hm : X.mg x = none) (hv : bootBuiltins x = some (.type id)) (ha : PA X (e :: es) t) (hg : Gl X x := by rfl) (hn : x ≠ "__name__" := by decide) (hdb : (x == ("__debug__" : Str)) = false := by decide)
    (he : starEach (e :: es) X.env = (false, eval e X.env) :: starEach es X.env := by rfl) (hpl : (backTo pos (starEach es X.env)).any (·.1) = false := by rfl) : PE X (.Call (.Name x p) (e :: es) [] pos) (tCB r t) := pe_callTy hc hg hm hv ha hn hdb he hpl
/-! a def of the text, called: what is known of it -/
structure Def (P : Program) (w : World) (K : PySem.W.Frag) (mg : Str → Option Value) (base : Heap) (CX : CXT) (k : Nat) (x : Str) (ps : List Str) (sp : Sp) : Prop where
  ex : ∃ (f : Addr) (fd : FuncData), FnOk P w K mg base CX k f fd ps sp ∧ mg x = some (.ref f) ∧ PySem.W.keepIn K (.ref f) = true ∧ Binds K fd ps []
def qCall (sp : Sp) (E : XK) (t : TA) : TE := fun σ H Q => t σ H fun vs H1 => sp vs H1 Q E
theorem pD {CX : CXT} {k j : Nat} {x : Str} {ps : List Str} {sp : Sp} {E : XK} {p pos : Pos} {e : Expr} {es : List Expr} {t : TA} (F : Def X.prog X.w X.K X.mg X.base CX k x ps sp) (hr : Room j X.A) (hx : Passes CX X E) (ha : PA X (e :: es) t) (hk : k ≤ j := by decide) (hg : Gl X x := by rfl)
    (hdb : (x == ("__debug__" : Str)) = false := by decide) (he : starEach (e :: es) X.env = (false, eval e X.env) :: starEach es X.env := by rfl) (hpl : (backTo pos (starEach es X.env)).any (·.1) = false := by rfl) :
    PE X (.Call (.Name x p) (e :: es) [] pos) (qCall sp E t) := by
  obtain ⟨f, fd, F1, F2, F3, F4⟩ := F.ex
  intro pins s σ H Q I h
  refine pe_call F1 (hr.mono hk) hg F2 F3 F4 .nil hx ha hdb he hpl pins s σ H Q I ?_
  unfold tCall
  simp only [List.append_nil]
  exact h
theorem psS {i : Nat} {x : Str} {e : Expr} {te : TE} {pos' pos : Pos} (hN : X.N.Nodup) (he : PE X e te) (hi : X.N[i]? = some x := by rfl) (hx : Loc X.env.scope x := by first | exact Or.inl rfl | exact Or.inr rfl) (hs : swapsWith e (some (.Name x pos')) pos.line X.env = pure false := by rfl) (hf : X.fn x = true ∨ X.env.scope.names.lookup x = some .local := by first | exact .inl rfl | exact .inr rfl | assumption) :
    PS X (.Assign [.Name x pos'] e pos) (tAsg te (gName i)) := ps_set hN hi hx he hs hf
section
variable {K : PySem.W.Frag} {H : Hp} {Q : VK} {p : Addr} {xs : List V} {i j : Int}
theorem mulL_rd (h1 : -18446744073709551616 < i) (h2 : i < 18446744073709551616) (q : Q (.int (i * j)) H) : rMulI i j H Q := mul_rd (.of_left (intBits_le_64 (by simpa using h1) (by simpa using h2))) q
theorem mulR_rd (h1 : -18446744073709551616 < j) (h2 : j < 18446744073709551616) (q : Q (.int (i * j)) H) : rMulI i j H Q := mul_rd (.of_right (intBits_le_64 (by simpa using h1) (by simpa using h2))) q
/-- a remainder, by its bounds alone -/
theorem modG_rd (h : 0 < j) (q : ∀ r : Int, 0 ≤ r → r < j → Q (.int r) H) : rModI i j H Q := mod_rd h (q _ (Int.emod_nonneg _ (by omega)) (Int.emod_lt_of_pos _ h))
theorem pow_lit {r : Int} (h : CPow i j) (e : i ^ j.toNat = r) (q : Q (.int r) H) : rPowI i j H Q := pow_rd h (by rw [e]; exact q)
/-- an item at a drawn place -/
theorem ixAny_rd (h : H p = some (.lst xs)) (h0 : 0 ≤ i) (h1 : i < xs.length) (q : ∀ v, v ∈ xs → Q v H) : rIxA K p i H Q := by
  have hl : i.toNat < xs.length := by omega
  refine ixL_rd h (v := xs[i.toNat]) ?_ (q _ (List.getElem_mem hl))
  have e : ((i.toNat : Nat) : Int) = i := by omega
  have z := atI_nat (List.getElem?_eq_getElem hl)
  rw [e] at z
  exact z
theorem hu40 {A : Around} {k : Nat} (hr : Room k A) : A.units + 40 < cLine := by have := hr.units; omega
end
/-! ### a word between two statements -/
@[irreducible] def qCut (t : TS) : TS := fun D σ H => ∃ R : St → Hp → Prop, t { D with nx := R } σ H ∧ ∀ σ' H', R σ' H' → D.nx σ' H'
theorem psCut {st : Stmt} {t : TS} (h : PS X st t) : PS X st (qCut t) := fun pins s σ H D I hq => by
  unfold qCut at hq
  obtain ⟨R, h1, h2⟩ := hq
  refine thn (h pins s σ H _ I h1) fun f s' q => ?_
  cases f with
  | next => obtain ⟨σ', H', I', z⟩ := q; exact ⟨σ', H', I', h2 _ _ z⟩
  | brk => exact q
  | cont => exact q
  | ret u => exact q
theorem cut_rd {t : TS} {D : Ends} {σ : St} {H : Hp} (R : St → Hp → Prop) (h1 : t { D with nx := R } σ H) (h2 : ∀ σ' H', R σ' H' → D.nx σ' H') : qCut t D σ H := by unfold qCut; exact ⟨R, h1, h2⟩
theorem cut_id {t : TS} {D : Ends} {σ : St} {H : Hp} (h1 : t D σ H) : qCut t D σ H := by unfold qCut; exact ⟨D.nx, h1, fun _ _ h => h⟩
/-! the script's numbers -/
theorem EqR.ints2 {K : PySem.W.Frag} {H : Hp} {a b : Addr} {t u x y : Int} (ha : H a = some (.tup [.int t, .int u])) (hb : H b = some (.tup [.int x, .int y])) : EqR K H 1 (.ref a) (.ref b) (decide (t = x ∧ u = y)) := by
  have h := EqR.tup (K := K) (H := H) (n := 0) (fun j => match j with | 0 => decide (t = x) | 1 => decide (u = y) | _ => true) (SqT.of ha) (SqT.of hb) (fun j p q hp hq => by
    have fl : ∀ (i k : Int), EqR K H 0 (.int i) (.int k) (decide (i = k)) := fun i k => by
      have := EqR.flat (K := K) (H := H) (n := 0) (x := .int i) (y := .int k) rfl rfl
      have e : eqV (.int i) (.int k) = decide (i = k) := by
        by_cases z : i = k
        · subst z; simp [eqV]
        · simp [eqV, z]
      rw [e] at this; exact this
    match j with
    | 0 => simp at hp hq; subst hp hq; exact fl t x
    | 1 => simp at hp hq; subst hp hq; exact fl u y
    | j + 2 => simp at hp)
  have e : ((List.range (min [V.int t, V.int u].length [V.int x, V.int y].length)).all (fun j => match j with | 0 => decide (t = x) | 1 => decide (u = y) | _ => true) && ([V.int t, V.int u].length == [V.int x, V.int y].length)) = decide (t = x ∧ u = y) := by
    show ((decide (t = x) && (decide (u = y) && true)) && true) = _
    rw [Bool.and_true, Bool.and_true, Bool.decide_and]
  rw [e] at h
  exact h
end
end L2

set_option Elab.async false
set_option linter.all false
set_option maxRecDepth 100000
set_option maxHeartbeats 2000000
namespace L2
open PySem PySem.Spec PyProof.Rows
/-! ### comprehensions -/
theorem closure_go {env : Env} : ∀ (names : List (Str × NameKind)) (acc : List (Str × Addr)), (∀ x ∈ names, x.2 = .free → ∃ c, env.cells.lookup x.1 = some c) →
    ∃ acc', (forIn (m := Sem) names acc (fun (x : Str × NameKind) (r : List (Str × Addr)) => if (x.2 == .free) = true then (do let c ← cellOf env x.1; pure (ForInStep.yield ((x.1, c) :: r))) else pure (ForInStep.yield r))) = pure acc' ∧
      (∀ x c, acc'.lookup x = some c → acc.lookup x = some c ∨ env.cells.lookup x = some c) ∧ (∀ x c, acc.lookup x = some c → ∃ c', acc'.lookup x = some c') ∧ ∀ x ∈ names, x.2 = .free → ∃ c, acc'.lookup x.1 = some c
  | [], acc, _ => ⟨acc, rfl, fun _ _ h => .inl h, fun _ c h => ⟨c, h⟩, fun _ h => by cases h⟩
  | (n, k) :: r, acc, h => by
    by_cases hk : k = .free
    · subst hk
      obtain ⟨c, hc⟩ := h (n, .free) List.mem_cons_self rfl
      obtain ⟨acc', e, h1, h2, h3⟩ := closure_go r ((n, c) :: acc) fun x hx => h x (List.mem_cons_of_mem _ hx)
      have hco : cellOf env n = pure c := by unfold cellOf; rw [hc]
      refine ⟨acc', ?_, fun x d hd => ?_, fun x d hd => ?_, fun x hx hf => ?_⟩
      · rw [List.forIn_cons]
        simp only [hco]
        exact e
      · rcases h1 x d hd with q | q
        · rw [List.lookup_cons] at q
          split at q
          · rename_i hx
            have hx : x = n := by simpa using hx
            subst hx
            cases q
            exact .inr hc
          · exact .inl q
        · exact .inr q
      · by_cases hx : x = n
        · subst hx
          exact h2 x c (by simp [List.lookup_cons])
        · refine h2 x d ?_
          rw [List.lookup_cons]
          have : (x == n) = false := by simpa using hx
          rw [this]; exact hd
      · rcases List.mem_cons.mp hx with rfl | hx
        · exact h2 n c (by simp [List.lookup_cons])
        · exact h3 x hx hf
    · obtain ⟨acc', e, h1, h2, h3⟩ := closure_go r acc fun x hx => h x (List.mem_cons_of_mem _ hx)
      refine ⟨acc', ?_, h1, h2, fun x hx hf => ?_⟩
      · rw [List.forIn_cons]
        have : (k == NameKind.free) = false := by simpa using hk
        simp only [this]
        exact e
      · rcases List.mem_cons.mp hx with rfl | hx
        · exact absurd hf hk
        · exact h3 x hx hf
theorem closure_ok {scope : Scope} {env : Env} (h : ∀ x ∈ scope.names, x.2 = .free → ∃ c, env.cells.lookup x.1 = some c) :
    ∃ cl, closureFor scope env = pure cl ∧ (∀ x c, cl.lookup x = some c → env.cells.lookup x = some c) ∧ ∀ x ∈ scope.names, x.2 = .free → ∃ c, cl.lookup x.1 = some c := by
  obtain ⟨cl, e, h1, _, h3⟩ := closure_go (env := env) scope.names [] h
  refine ⟨cl, ?_, fun x c hc => (h1 x c hc).elim (fun q => by cases q) id, h3⟩
  unfold closureFor
  show (forIn (m := Sem) scope.names ([] : List (Str × Addr)) _ >>= fun r => pure r) = _
  rw [e]
  rfl
theorem relabel_free {env : Env} : ∀ {names : List (Str × NameKind)} {x : Str}, names.lookup x = some .free →
    (names.map fun (n, k) => if (k == NameKind.free && env.scope.kind == .function && env.kindOf n == some .cell) then (n, NameKind.cell) else (n, k)).lookup x = some .cell ∨
    (names.map fun (n, k) => if (k == NameKind.free && env.scope.kind == .function && env.kindOf n == some .cell) then (n, NameKind.cell) else (n, k)).lookup x = some .free
  | [], _, h => by simp at h
  | (n, k) :: r, x, h => by
    have ih := @relabel_free env r x
    show List.lookup x ((if (k == NameKind.free && env.scope.kind == .function && env.kindOf n == some .cell) = true then (n, NameKind.cell) else (n, k)) :: _) = _ ∨ List.lookup x ((if (k == NameKind.free && env.scope.kind == .function && env.kindOf n == some .cell) = true then (n, NameKind.cell) else (n, k)) :: _) = _
    cases hx : x == n with
    | true =>
      simp only [List.lookup_cons, hx] at h
      cases h
      by_cases hc : (NameKind.free == NameKind.free && env.scope.kind == .function && env.kindOf n == some .cell) = true
      · left; rw [if_pos hc]; simp only [List.lookup_cons, hx]
      · right; rw [if_neg hc]; simp only [List.lookup_cons, hx]
    | false =>
      simp only [List.lookup_cons, hx] at h
      by_cases hc : (k == NameKind.free && env.scope.kind == .function && env.kindOf n == some .cell) = true
      · rw [if_pos hc]; simp only [List.lookup_cons, hx]; exact ih h
      · rw [if_neg hc]; simp only [List.lookup_cons, hx]; exact ih h
/-- what a name's kind in the block says of the written scope -/
theorem relabel_kind {env : Env} : ∀ {names : List (Str × NameKind)} {x : Str} {k' : NameKind}, (∀ y ∈ names, y.2 ≠ .cell) → (k' = .cell ∨ k' = .free) →
    (names.map fun (n, k) => if (k == NameKind.free && env.scope.kind == .function && env.kindOf n == some .cell) then (n, NameKind.cell) else (n, k)).lookup x = some k' → ∃ y ∈ names, y.1 = x ∧ y.2 = .free
  | [], _, _, _, _, h => by simp at h
  | (n, k) :: r, x, k', hn, hk, h => by
    have ih := @relabel_kind env r x k' (fun y hy => hn y (List.mem_cons_of_mem _ hy)) hk
    replace h : List.lookup x ((if (k == NameKind.free && env.scope.kind == .function && env.kindOf n == some .cell) = true then (n, NameKind.cell) else (n, k)) :: List.map (fun (n, k) => if (k == NameKind.free && env.scope.kind == .function && env.kindOf n == some .cell) then (n, NameKind.cell) else (n, k)) r) = some k' := h
    cases hx : x == n with
    | true =>
      have hx' : x = n := by simpa using hx
      by_cases hf : k = .free
      · exact ⟨(n, k), List.mem_cons_self, hx'.symm, hf⟩
      · have hc : ¬ (k == NameKind.free && env.scope.kind == .function && env.kindOf n == some .cell) = true := by
          have : (k == NameKind.free) = false := by simpa using hf
          rw [this]; simp
        rw [if_neg hc] at h
        simp only [List.lookup_cons, hx] at h
        have : k = k' := Option.some.inj h
        subst this
        rcases hk with hk | hk
        · exact absurd hk (hn (n, k) List.mem_cons_self)
        · exact absurd hk hf
    | false =>
      have h' : List.lookup x (List.map (fun (n, k) => if (k == NameKind.free && env.scope.kind == .function && env.kindOf n == some .cell) then (n, NameKind.cell) else (n, k)) r) = some k' := by
        by_cases hc : (k == NameKind.free && env.scope.kind == .function && env.kindOf n == some .cell) = true
        · rw [if_pos hc] at h; simp only [List.lookup_cons, hx] at h; exact h
        · rw [if_neg hc] at h; simp only [List.lookup_cons, hx] at h; exact h
      obtain ⟨y, hy, h1, h2⟩ := ih h'
      exact ⟨y, List.mem_cons_of_mem _ hy, h1, h2⟩

/-- the context of a comprehension's block -/
def blk (X : Cx) (N : List Str) (scope : Scope) (cl : List (Str × Addr)) (C : Addr) (s3 : Shared) (H3 : Hp) (fp : List Addr) : Cx :=
  { X with N := N, s₀ := s3, H₀ := H3, env := compEnvC scope cl C X.env, outer := X.stack, ex := fp, fn := fun _ => false, pn := [], xe := fun _ _ => False }
def PTs (X : Cx) (ifs : List Expr) (t : TT) : Prop :=
  ∀ (pins : List (Addr × Obj)) (s : Shared) (σ : St) (H : Hp) (Q : Bool → Hp → Prop), Inv X pins σ H s → t σ H Q →
    wpAny (model X.prog X.w) X.A (forIn ifs true fun c r => if r = true then do let ok ← isTrue c X.env (eval c X.env); pure (ForInStep.yield ok) else pure (ForInStep.yield r)) (TP X pins σ Q) X.xe s
theorem pts_nil {X : Cx} : PTs X [] (fun _ H Q => Q true H) := fun _ _ _ H _ I h => wpAny_tests_nil ⟨H, I, h⟩
theorem pts_one {X : Cx} {c : Expr} {t : TT} (h : PT X c t) : PTs X [c] t := fun pins s σ H Q I hq => wpAny_tests_one (h pins s σ H Q I hq)
/-- one turn after another: the list so far -/
@[irreducible] def cPut (W : Nat → Nat → List V → St → Hp → Prop) (acc : Addr) (ys : List V) (i m : Nat) (σ2 : St) (v : V) (H5 : Hp) : Prop :=
  H5 acc = some (.lst ys) ∧ ∀ H6, Chg acc H5 H6 → H6 acc = some (.lst (ys ++ [v])) → ∃ m', m' < m ∧ W (i + 1) m' (ys ++ [v]) σ2 H6
@[irreducible] def cSkip (W : Nat → Nat → List V → St → Hp → Prop) (ys : List V) (i m : Nat) (σ2 : St) (H4 : Hp) : Prop := ∃ m', m' < m ∧ W (i + 1) m' ys σ2 H4
@[irreducible] noncomputable def compW (J : It) (g : TG) (tt : TT) (te : TE) (σ0 : St) (H1 : Hp) (Q : VK) : Prop :=
  ∀ acc H2, H1 acc = none → Same H1 H2 → H2 acc = some (.lst []) → ∃ W : Nat → Nat → List V → St → Hp → Prop, (∃ m, W 0 m [] σ0 H2) ∧ ∀ i m ys σ H, W i m ys σ H → H acc = some (.lst ys) ∧ ys.length < sizeLine ∧
    ((J.stop i H ∧ Q (.ref acc) H) ∨ (J.go i H ∧ ∀ x H', J.yld i H x H' → g x σ H' fun σ2 H3 => tt σ2 H3 fun b H4 =>
      br b (te σ2 H4 fun v H5 => cPut W acc ys i m σ2 v H5) (cSkip W ys i m σ2 H4)))
section
variable {X : Cx} {pins : List (Addr × Obj)} {σ : St} {H : Hp} {s2 : Shared}
theorem blk_inv {N : List Str} {scope : Scope} {cl : List (Str × Addr)} {C : Addr} {s3 s4 : Shared} {H3 : Hp} {fp : List Addr} {σc : St} (I : Inv X pins σ H3 s3)
    (hcl1 : ∀ x c, cl.lookup x = some c → X.env.cells.lookup x = some c) (hcl2 : ∀ x ∈ scope.names, x.2 = .free → ∃ c, cl.lookup x.1 = some c) (hkind : scope.kind = .function) (hcell : ∀ y ∈ scope.names, y.2 ≠ .cell)
    (hcap : ∀ (i : Nat) (x : Str) (v : V), N[i]? = some x → σc[i]? = some (some v) → ∃ j : Nat, X.N[j]? = some x ∧ σ[j]? = some (some v) ∧ scope.names.lookup x = some .free ∧ (X.env.kindOf x = some .cell ∨ X.env.kindOf x = some .free))
    (hlen : σc.length = N.length) (hC : s3.heap.objs.size = C) (hfp : ∀ b ∈ fp, FpOk X pins H3 b) (hfpl : ∀ b ∈ fp, b < C) (hex : ∀ b o, X.base.get? b = some o → b ∉ fp) (hns : ∃ m, s4.heap.Ns C m) (hk : ∀ b o, s3.heap.get? b = some o → s4.heap.get? b = some o) (h4 : s4.os = s3.os) (h5 : s4.gens = s3.gens) :
    Inv (blk X N scope cl C s3 H3 fp) [] σc H3 s4 := by
  subst hC
  have look : ∀ x, (blk X N scope cl s3.heap.objs.size s3 H3 fp).env.kindOf x = (relabel scope X.env).names.lookup x := fun x => rfl
  have cne : ∀ x c, cl.lookup x = some c → c < s3.heap.objs.size := fun x c h => by
    obtain ⟨v, o, ho, _⟩ := I.cell x c (hcl1 x c h)
    exact Heap.lt_size ho
  refine ⟨⟨I.ok.mod, ?_, I.ok.glob, I.ok.blt, Nat.le_refl _, fun x y c h1 h2 => I.ok.inj x y c (hcl1 _ _ h1) (hcl1 _ _ h2), fun x hx => ?_, fun x c h => ?_, I.ok.hd, I.ok.frames, .inl rfl, fun b hb => ⟨Nat.ne_of_lt (hfpl b hb), fun x c h => ?_⟩, fun b o e => I.bs b o e, Nat.le_trans I.ok.bsz I.sz, fun b o e => hex b o e, fun b hb => ?_, I.stack, I.stkFree⟩,
    h4, by rw [h5]; exact I.bare, Un.kept hk, ?_, fun x c h => ?_, I.hok.fresh (Nat.le_refl _), fun x c h => I.freeC x c (hcl1 _ _ h), fun p hp => (by cases hp), I.hok.kept hk, hlen⟩
  · exact hkind
  · have hx' : (relabel scope X.env).names.lookup x = some .cell ∨ (relabel scope X.env).names.lookup x = some .free := hx
    have hz : ∃ y ∈ scope.names, y.1 = x ∧ y.2 = .free := by
      rcases hx' with q | q
      · exact relabel_kind hcell (.inl rfl) q
      · exact relabel_kind hcell (.inr rfl) q
    obtain ⟨y, hy, rfl, hf⟩ := hz
    exact hcl2 y hy hf
  · exact absurd (show false = true from h) Bool.false_ne_true
  · exact (hfp b hb).2.2.2.2.1 x c (hcl1 x c h)
  · have := (hfp b hb).1
    intro hz
    obtain ⟨f0, f1, f2, _⟩ := hfp b hb
    have hz : b ∈ frs X.stack := hz
    rcases List.mem_cons.mp (I.stkSub b hz) with q | q
    · exact f1 q
    · exact f2 q
  · obtain ⟨m, hm⟩ := hns
    refine ⟨m, hm, fun i x v h1 h2 h3 => ?_⟩
    obtain ⟨j, e1, e2, e3, e4⟩ := hcap i x v h1 h2
    obtain ⟨mX, _, hl⟩ := I.loc
    obtain ⟨u, r, q⟩ := hl j x v e1 e2 (by rcases e4 with e4 | e4; exact .inr (.inl e4); exact .inr (.inr e4))
    refine ⟨u, r, .inr ⟨relabel_free e3, ?_⟩⟩
    obtain ⟨c, hc⟩ := hcl2 (x, .free) (PySem.mem_of_lookup e3) rfl
    refine ⟨c, hc, ?_⟩
    have hc' := hcl1 x c hc
    rcases q with ⟨k, _⟩ | ⟨_, c2, e5, o, ho, hd⟩
    · rcases e4 with e4 | e4 <;> rw [e4] at k <;> cases k
    · rw [hc'] at e5
      cases e5
      exact ⟨o, hk _ _ ho, hd⟩
  · obtain ⟨v, o, ho, hd⟩ := I.cell x c (hcl1 x c h)
    exact ⟨v, o, hk _ _ ho, hd⟩
theorem comp_loop {prog : Program} {w : World} {A : Around} {R : Result → Shared → Prop} {s : Shared} {elt target iter : Expr} {ifs : List Expr} {scope : Scope} {pos : Pos} {it acc : Value} {env : Env} (I : Nat → Shared → Prop)
    (turn : ∀ n s, I n s → wpAny (model prog w) A (pyNext it) (fun r s₁ => match r with
      | none => R (.ok .next) s₁
      | some v => wpAny (model prog w) A (letOwnedTupleGo target it v) (fun _ s₁' => wpAny (model prog w) A (assign target env v) (fun _ s₂ =>
          wpAny (model prog w) A (forIn ifs true fun c r => if r = true then do let ok ← isTrue c env (eval c env); pure (ForInStep.yield ok) else pure (ForInStep.yield r)) (fun ok s₃ =>
            if ok = true then wpAny (model prog w) A (eval elt env) (fun x s₄ =>
              wpAny (model prog w) A (call (.builtin "list.append") [acc, x]) (fun _ s₅ => ∃ m, m < n ∧ I m s₅) (fun _ _ => False) s₄) (fun _ _ => False) s₃
            else ∃ m, m < n ∧ I m s₃) (fun _ _ => False) s₂) (fun _ _ => False) s₁') (fun _ _ => False) s₁) (fun _ _ => False) s)
    (n : Nat) (h : I n s) : codeAny (model prog w) A (.compLoop (.ListComp elt [⟨target, iter, ifs, 0⟩] scope pos) 0 it acc env) R s := by
  refine codeAny_loop rfl I (fun n s hI => ?_) n h
  show wpAny _ A ((compTurn (.ListComp elt [⟨target, iter, ifs, 0⟩] scope pos) 0 it acc env).onRaise (fun x => do noteFrame x env; theTreesLotGoes x)) _ _ s
  refine wpAny_noted ?_
  rw [compTurn_list]
  refine wpAny_bind (wpAny_standAt (wpAny_bind (wpAny_mono (turn n s hI) (fun r s₁ h₁ => ?_) fun _ _ h' => h'.elim)))
  cases r with
  | none => exact wpAny_pure h₁
  | some v =>
    refine wpAny_bind (wpAny_mono h₁ (fun _ s₁' h₁' => ?_) fun _ _ h' => h'.elim)
    refine wpAny_bind (wpAny_mono h₁' (fun _ s₂ h₂ => wpAny_bind (wpAny_mono h₂ (fun ok s₃ h₃ => ?_) fun _ _ h' => h'.elim)) fun _ _ h' => h'.elim)
    cases ok with
    | false => exact wpAny_pure ⟨rfl, h₃⟩
    | true =>
      exact wpAny_bind (wpAny_bind (wpAny_mono h₃ (fun x s₄ h₄ => wpAny_bind (wpAny_mono h₄ (fun _ s₅ h₅ => wpAny_pure (wpAny_pure ⟨rfl, h₅⟩)) fun _ _ h' => h'.elim)) fun _ _ h' => h'.elim))

theorem comp_core {E : Value → Shared → Prop} {elt tg iter : Expr} {ifs : List Expr} {scope : Scope} {pos : Pos} {cl : List (Str × Addr)} {N : List Str} {σc : St} {J : It} {fp : List Addr} {it : Addr} {tn : Nat → Heap → Prop} {g : TG} {tt : TT} {te : TE} {Q : VK}
    {RR : Value → Addr → Result → Shared → Prop}
    (hcl1 : ∀ x c, cl.lookup x = some c → X.env.cells.lookup x = some c) (hcl2 : ∀ x ∈ scope.names, x.2 = .free → ∃ c, cl.lookup x.1 = some c) (hkind : scope.kind = .function) (hcell : ∀ y ∈ scope.names, y.2 ≠ .cell)
    (hcap : ∀ (i : Nat) (x : Str) (v : V), N[i]? = some x → σc[i]? = some (some v) → ∃ j : Nat, X.N[j]? = some x ∧ σ[j]? = some (some v) ∧ scope.names.lookup x = some .free ∧ (X.env.kindOf x = some .cell ∨ X.env.kindOf x = some .free))
    (hlen : σc.length = N.length) (hc : X.calm = true) (I : Inv X pins σ H s2) (T : Turn X.prog X.w X.K tg J fp it tn) (st : tn 0 s2.heap) (fpok : ∀ b ∈ fp, FpOk X pins H b)
    (hg : ∀ C s3 H3 fp, PG (blk X N scope cl C s3 H3 fp) tg g) (ht : ∀ C s3 H3 fp, PTs (blk X N scope cl C s3 H3 fp) ifs tt) (he : ∀ C s3 H3 fp, PE (blk X N scope cl C s3 H3 fp) elt te)
    (h : compW J g tt te σc H Q)
    (hRR : ∀ (acc C : Addr) (H' : Hp) (s' : Shared), Inv X pins σ H' s' → FpOk X pins H' C → (∃ m, s'.heap.Ns C m) → Q (.ref acc) H' → RR (.ref acc) C (.ok .next) s') :
    wpAny (model X.prog X.w) X.A (newList []) (fun acc s₃ => wpAny (model X.prog X.w) X.A (newFunctionEnv scope X.env.globals cl [] X.env.qual none .none (some X.env)) (fun cenv s₄ =>
      codeAny (model X.prog X.w) X.A (.compStart (.ListComp elt [⟨tg, iter, ifs, 0⟩] scope pos) 0 (.ref it) acc { cenv with scope := relabel scope X.env }) (RR acc cenv.locals) s₄) E s₃) E s2 := by
  refine wpAny_newObj_type (wpAny_newFunctionEnv hcell (by intro y hy; simp at hy) (fun h₁ hns₁ hsb₁ => ?_) hkind)
  dsimp only at hns₁ hsb₁ ⊢
  have hf : H s2.heap.objs.size = none := I.fresh
  have I3 : Inv X pins σ (upd H s2.heap.objs.size (.lst [])) { s2 with heap := s2.heap.push { cls := .type "list", data := .seq ([] : List Value).toArray } } := I.lnew (t' := s2.toks) (its := []) .nil (Nat.zero_le _)
  generalize hs3 : ({ s2 with heap := s2.heap.push { cls := .type "list", data := .seq ([] : List Value).toArray } } : Shared) = s3 at I3
  have hH : s2.heap.push { cls := .type "list", dict := none, data := .seq ([] : List Value).toArray } = s3.heap := by rw [← hs3]
  rw [hH] at hns₁ hsb₁ ⊢
  have hsz : s3.heap.objs.size = s2.heap.objs.size + 1 := by rw [← hH, Heap.size_push]
  have old23 : ∀ b o, s2.heap.get? b = some o → s3.heap.get? b = some o := fun b o e => by rw [← hH]; exact Heap.get?_push_of_some _ e
  have fplt : ∀ b ∈ fp, b < s2.heap.objs.size := fun b hb => by
    obtain ⟨o, e, _⟩ := T.obj 0 _ st b hb
    exact Heap.lt_size e
  have fp3 : ∀ b ∈ fp, FpOk X pins (upd H s2.heap.objs.size (.lst [])) b := fun b hb => by
    obtain ⟨f0, f1⟩ := fpok b hb
    refine ⟨?_, f1⟩
    rw [upd_ne (Nat.ne_of_lt (fplt b hb))]
    exact f0
  have old34 : ∀ b o, s3.heap.get? b = some o → h₁.get? b = some o := fun b o e => hsb₁.extBut b o (Nat.ne_of_lt (Heap.lt_size e)) (Heap.get?_push_of_some _ e)
  have nob : ∀ b o, X.base.get? b = some o → b ∉ fp := fun b o e hb => by
    obtain ⟨_, _, _, f3, _, _⟩ := fpok b hb
    rcases f3 with f3 | f3
    · exact I.ok.noex b o e f3
    · exact absurd (Nat.lt_of_lt_of_le (Heap.lt_size e) I.ok.bsz) (Nat.not_lt.mpr f3)
  have hs4e : ({ s2 with heap := h₁, toks := s2.toks + ([] : List (Str × Value)).length } : Shared).os = s3.os := by rw [← hs3]
  have hs4g : ({ s2 with heap := h₁, toks := s2.toks + ([] : List (Str × Value)).length } : Shared).gens = s3.gens := by rw [← hs3]
  have I4 : Inv (blk X N scope cl s3.heap.objs.size s3 (upd H s2.heap.objs.size (.lst [])) fp) [] σc (upd H s2.heap.objs.size (.lst [])) { s2 with heap := h₁, toks := s2.toks + ([] : List (Str × Value)).length } :=
    blk_inv (s4 := { s2 with heap := h₁, toks := s2.toks + ([] : List (Str × Value)).length }) I3 hcl1 hcl2 hkind hcell hcap hlen rfl fp3 (fun b hb => Nat.lt_of_lt_of_le (fplt b hb) (by rw [hsz]; exact Nat.le_succ _)) nob ⟨_, hns₁⟩ old34 hs4e hs4g
  have st4 : tn 0 h₁ := T.keep _ _ _ st fun b hb o e => old34 b o (old23 b o e)
  unfold compW at h
  obtain ⟨W, ⟨m0, w0⟩, turn⟩ := h s2.heap.objs.size _ hf (Same.upd hf) upd_same
  have loop : codeAny (model X.prog X.w) X.A (.compLoop (.ListComp elt [⟨tg, iter, ifs, 0⟩] scope pos) 0 (.ref it) (.ref s2.heap.objs.size) (blk X N scope cl s3.heap.objs.size s3 (upd H s2.heap.objs.size (.lst [])) fp).env)
      (RR (.ref s2.heap.objs.size) s3.heap.objs.size) { s2 with heap := h₁, toks := s2.toks + ([] : List (Str × Value)).length } := by
    refine comp_loop (fun n s' => ∃ i ys σ' H', Inv (blk X N scope cl s3.heap.objs.size s3 (upd H s2.heap.objs.size (.lst [])) fp) [] σ' H' s' ∧ tn i s'.heap ∧ (∀ b ∈ fp, H' b = none) ∧ W i n ys σ' H') ?_ m0 ⟨0, [], σc, _, I4, st4, fun b hb => (fp3 b hb).1, w0⟩
    rintro n s5 ⟨i, ys, σ5, H5, I5, st5, fr5, w5⟩
    obtain ⟨hacc, hl5, hcase⟩ := turn i n ys σ5 H5 w5
    have stat : ∀ {H' : Hp}, (∀ b ∈ fp, H' b = none) → ∀ b ∈ fp, FpOk (blk X N scope cl s3.heap.objs.size s3 (upd H s2.heap.objs.size (.lst [])) fp) [] H' b := fun hn b hb => by
      obtain ⟨_, f1, f2, f3, f4, _⟩ := fpok b hb
      refine ⟨hn b hb, Nat.ne_of_lt (Nat.lt_of_lt_of_le (fplt b hb) (by rw [hsz]; exact Nat.le_succ _)), fun hz => ?_, .inl hb, fun x c hx => f4 x c (hcl1 x c hx), fun p hp => by cases hp⟩
      rcases List.mem_cons.mp (I.stkSub b hz) with q | q
      · exact f1 q
      · exact f2 q
    rcases hcase with ⟨stop, hq⟩ | ⟨go, step⟩
    · refine thn (T.done (blk X N scope cl s3.heap.objs.size s3 (upd H s2.heap.objs.size (.lst [])) fp) rfl rfl rfl hc i [] s5 σ5 H5 (fun _ _ => False) I5 (stat fr5) st5 stop) fun r s6 ⟨hr, I6⟩ => ?_
      subst hr
      have u1 : Un (frs X.stack) fp H (upd H s2.heap.objs.size (.lst [])) s2.heap s3.heap := Un.laid old23 (Nat.le_refl _) hf
      have u2 : Un (frs X.stack) fp (upd H s2.heap.objs.size (.lst [])) H5 s3.heap s6.heap := I6.base
      have hC : H5 s3.heap.objs.size = none := I6.free
      obtain ⟨m6, hm6, _⟩ := I6.loc
      have hos : s6.os = s2.os := by rw [I6.os]; show s3.os = s2.os; rw [← hs3]
      have hok6 := I6.hok
      have bare6 := I6.bare
      obtain ⟨hh, gg, dd, tt', os'⟩ := s6
      obtain rfl : os' = s2.os := hos
      exact hRR _ _ H5 _ (I.call (h' := hh) (g' := gg) (d' := dd) (t' := tt') (ch := fp) (u1.trans u2) hok6 bare6 fun b hb => ⟨(fpok b hb).2.2.2.1, (fpok b hb).2.1, (fpok b hb).2.2.2.2.1, (fpok b hb).2.2.2.2.2⟩)
        (I.fpOk (by rw [hsz]; exact Nat.le_succ _) hC) ⟨m6, hm6⟩ hq
    · refine thn (T.item (blk X N scope cl s3.heap.objs.size s3 (upd H s2.heap.objs.size (.lst [])) fp) rfl rfl rfl hc i [] s5 σ5 H5 (fun _ _ => False) I5 (stat fr5) st5 go) fun r s6 ⟨u, hr, h6⟩ => ?_
      subst hr
      refine thn h6 fun _ s7 ⟨x, H7, I7, r7, y7, st7, fr7⟩ => ?_
      have I7' := I7.pinned (stat fr7) (T.obj _ _ st7)
      refine thn (hg _ _ _ _ _ s7 σ5 H7 x u _ I7' r7 (step x H7 y7)) fun _ s8 ⟨σ8, H8, I8, q8⟩ => ?_
      refine thn (ht _ _ _ _ _ s8 σ8 H8 _ I8 q8) fun ok s9 ⟨H9, I9, q9⟩ => ?_
      have again : ∀ {s10 : Shared} {σ10 : St} {H10 : Hp} {zs : List V}, Inv (blk X N scope cl s3.heap.objs.size s3 (upd H s2.heap.objs.size (.lst [])) fp) ([] ++ pinsAt fp s7.heap) σ10 H10 s10 → (∃ m', m' < n ∧ W (i + 1) m' zs σ10 H10) →
          ∃ m, m < n ∧ ∃ i ys σ' H', Inv (blk X N scope cl s3.heap.objs.size s3 (upd H s2.heap.objs.size (.lst [])) fp) [] σ' H' s10 ∧ tn i s10.heap ∧ (∀ b ∈ fp, H' b = none) ∧ W i m ys σ' H' := fun {s10 σ10 H10 zs} I10 ⟨m', hm, w10⟩ => by
        refine ⟨m', hm, i + 1, zs, σ10, H10, I10.unpinned, T.keep _ _ _ st7 fun b hb o e => (I10.pin (b, o) (List.mem_append_right _ (List.mem_append_right _ (mem_pinsAt hb e)))).1, fun b hb => ?_, w10⟩
        obtain ⟨o, e, d⟩ := T.obj _ _ st7 b hb
        exact (I10.pin (b, o) (List.mem_append_right _ (List.mem_append_right _ (mem_pinsAt hb e)))).2.1
      dsimp only at q9
      rw [br_iff] at q9
      cases ok with
      | false =>
        have q9 : ∃ m', m' < n ∧ W (i + 1) m' ys σ8 H9 := by rw [if_neg Bool.false_ne_true] at q9; unfold cSkip at q9; exact q9
        exact again I9 q9
      | true =>
        have q9 := (if_pos rfl ▸ q9 : te σ8 H9 _)
        refine thn (he _ _ _ _ _ s9 σ8 H9 _ I9 q9) fun v s10 ⟨y, H10, I10, r10, q10⟩ => ?_
        unfold cPut at q10
        obtain ⟨e10, q10⟩ := q10
        refine thn (mt_append _ s10 σ8 H10 (.ref s2.heap.objs.size) [y] (.ref s2.heap.objs.size) [v] (fun _ H11 => ∃ m', m' < n ∧ W (i + 1) m' (ys ++ [y]) σ8 H11) I10 rfl (.cons r10 .nil) ⟨_, ys, y, rfl, rfl, e10, hl5, q10 _ Chg.upd upd_same⟩) fun _ s11 ⟨z, H11, I11, _, q11⟩ => ?_
        exact again I11 q11
  exact codeAny_compStart_list loop (T.self _ 0 _ _ _ st4 loop)
/-- what the block sees of the frame: by slots -/
def capS (ks : List (Option Nat)) (σ : St) : St := ks.map fun k => match k with
  | none => none
  | some j => (σ[j]?).join
inductive CapOk (X : Cx) (scope : Scope) : List Str → List (Option Nat) → Prop where
  | nil : CapOk X scope [] []
  | skip {x : Str} {N : List Str} {ks : List (Option Nat)} (t : CapOk X scope N ks) : CapOk X scope (x :: N) (none :: ks)
  | take {x : Str} {N : List Str} {ks : List (Option Nat)} {j : Nat} (h1 : X.N[j]? = some x) (h2 : scope.names.lookup x = some .free) (h3 : X.env.kindOf x = some .cell ∨ X.env.kindOf x = some .free) (t : CapOk X scope N ks) : CapOk X scope (x :: N) (some j :: ks)
theorem CapOk.cap {scope : Scope} {N : List Str} {ks : List (Option Nat)} (h : CapOk X scope N ks) (σ : St) : ∀ (i : Nat) (x : Str) (v : V), N[i]? = some x → (capS ks σ)[i]? = some (some v) → ∃ j : Nat, X.N[j]? = some x ∧ σ[j]? = some (some v) ∧ scope.names.lookup x = some .free ∧ (X.env.kindOf x = some .cell ∨ X.env.kindOf x = some .free) := by
  induction h with
  | nil => intro i x v h; simp at h
  | skip t ih =>
    intro i x v h1 h2
    cases i with
    | zero => simp [capS] at h2
    | succ i => exact ih i x v (by simpa using h1) (by simpa [capS] using h2)
  | take a b c t ih =>
    intro i x v h1 h2
    cases i with
    | zero =>
      simp only [List.getElem?_cons_zero, Option.some.injEq] at h1
      subst h1
      refine ⟨_, a, ?_, b, c⟩
      simpa [capS, Option.join_eq_some_iff] using h2
    | succ i => exact ih i x v (by simpa using h1) (by simpa [capS] using h2)
theorem CapOk.len {scope : Scope} {N : List Str} {ks : List (Option Nat)} (h : CapOk X scope N ks) (σ : St) : (capS ks σ).length = N.length := by
  have : ks.length = N.length := by
    induction h with
    | nil => rfl
    | skip t ih => simp [ih]
    | take a b c t ih => simp [ih]
  simp [capS, this]
def qComp (ks : List (Option Nat)) (wi : TI) (g : TG) (tt : TT) (te : TE) : TE := fun σ H Q => wi σ H fun J H1 => compW J g tt te (capS ks σ) H1 Q
def freeB (scope : Scope) (f : Str → Option NameKind) : Bool := scope.names.all fun x => x.2 != .free || (f x.1 == some .cell || f x.1 == some .free)
def scopeB (scope : Scope) : Bool := scope.names.all (fun x => x.2 != .cell) && scope.names.all fun x => x.2 != .local || scope.names.lookup x.1 == some .local
theorem freeB_ok {scope : Scope} {f : Str → Option NameKind} (h : freeB scope f = true) : ∀ x ∈ scope.names, x.2 = .free → f x.1 = some .cell ∨ f x.1 = some .free := fun x hx hf => by
  have := List.all_eq_true.mp h x hx
  simpa [hf] using this
theorem scopeB_ok {scope : Scope} (h : scopeB scope = true) : (∀ y ∈ scope.names, y.2 ≠ .cell) ∧ ∀ x ∈ scope.names, x.2 = .local → scope.names.lookup x.1 = some .local := by
  unfold scopeB at h
  rw [Bool.and_eq_true] at h
  refine ⟨fun y hy => ?_, fun x hx hl => ?_⟩
  · have := List.all_eq_true.mp h.1 y hy
    simpa using this
  · have := List.all_eq_true.mp h.2 x hx
    simpa [hl] using this
theorem peComp {elt tg iter : Expr} {ifs : List Expr} {scope : Scope} {pos : Pos} {N : List Str} {ks : List (Option Nat)} {wi : TI} {g : TG} {tt : TT} {te : TE} (hi : PI X tg iter wi)
    (hg : ∀ cl C s3 H3 fp, PG (blk X N scope cl C s3 H3 fp) tg g) (ht : ∀ cl C s3 H3 fp, PTs (blk X N scope cl C s3 H3 fp) ifs tt) (he : ∀ cl C s3 H3 fp, PE (blk X N scope cl C s3 H3 fp) elt te) (hcap : CapOk X scope N ks)
    (hc : X.calm = true := by rfl) (hkind : scope.kind = .function := by rfl) (hb : freeB scope X.env.kindOf = true := by rfl) (hn : scopeB scope = true := by rfl) (hs : ∀ x, foldedSetIterable iter X.env x = pure x := by intro _; rfl) :
    PE X (.ListComp elt [⟨tg, iter, ifs, 0⟩] scope pos) (qComp ks wi g tt te) := by
  intro pins s σ H Q I h
  obtain ⟨hcell, hnames⟩ := scopeB_ok hn
  obtain ⟨cl, hcl, hcl1, hcl2⟩ := closure_ok (scope := scope) (env := X.env) fun x hx hf => I.ok.has x.1 (freeB_ok hb x hx hf)
  rw [eval_ListComp]
  refine wpAny_comprehension_free (use := none) rfl hs hcl hkind hnames ?_
  show wpAny _ _ (eval iter X.env) _ _ s
  refine thn (hi pins s σ H _ I h) fun v s1 h1 => thn h1 fun itv s2 h2 => ?_
  obtain ⟨it, fp, tn, J, H2, e, I2, T, st2, f2, q2⟩ := h2
  subst e
  refine comp_core (RR := fun acc C => compPost (model X.prog X.w) X.A X.xe none (EP X pins σ Q) acc C) hcl1 hcl2 hkind hcell (hcap.cap σ) (hcap.len σ) hc I2 T st2 f2 (hg cl) (ht cl) (he cl) q2 ?_
  rintro acc C H' s' I' hC ⟨m, hm⟩ hq
  refine ⟨m, hm, fun h' hsb => ⟨.ref acc, H', ?_, rfl, hq⟩⟩
  exact I'.turned (t' := s'.toks) (fun b o hb e => hsb.extBut b o hb e) hC.1 hC.2.1 hC.2.2.2.1 hC.2.2.2.2.1 hC.2.2.2.2.2
/-- name = [.. for ..], the name a plain local -/
theorem psC {i : Nat} {y : Str} {py spos : Pos} {elt tg iter : Expr} {ifs : List Expr} {scope : Scope} {pos : Pos} {N : List Str} {ks : List (Option Nat)} {wi : TI} {g : TG} {tt : TT} {te : TE} (hN : X.N.Nodup) (hi : PI X tg iter wi)
    (hg : ∀ cl C s3 H3 fp, PG (blk X N scope cl C s3 H3 fp) tg g) (ht : ∀ cl C s3 H3 fp, PTs (blk X N scope cl C s3 H3 fp) ifs tt) (he : ∀ cl C s3 H3 fp, PE (blk X N scope cl C s3 H3 fp) elt te) (hcap : CapOk X scope N ks)
    (hy : X.N[i]? = some y := by rfl) (hl : X.env.scope.names.lookup y = some .local := by rfl) (hsw : swapsWith (.ListComp elt [⟨tg, iter, ifs, 0⟩] scope pos) (some (.Name y py)) spos.line X.env = pure true := by rfl)
    (hc : X.calm = true := by rfl) (hkind : scope.kind = .function := by rfl) (hb : freeB scope X.env.kindOf = true := by rfl) (hn : scopeB scope = true := by rfl) (hs : ∀ x, foldedSetIterable iter X.env x = pure x := by intro _; rfl) :
    PS X (.Assign [.Name y py] (.ListComp elt [⟨tg, iter, ifs, 0⟩] scope pos) spos) (tAsg (qComp ks wi g tt te) (gName i)) := by
  intro pins s σ H D I h
  obtain ⟨hcell, hnames⟩ := scopeB_ok hn
  obtain ⟨cl, hcl, hcl1, hcl2⟩ := closure_ok (scope := scope) (env := X.env) fun x hx hf => I.ok.has x.1 (freeB_ok hb x hx hf)
  rw [exec_Assign_Name_used _ _ _ _ hsw]
  refine wpAny_bind (wpAny_standAt (wpAny_bind ?_))
  show wpAny _ X.A (do let _ ← comprehension (.ListComp elt [⟨tg, iter, ifs, 0⟩] scope pos) scope X.env _ (newList []) false (eval iter X.env) (some (assign (.Name y py) X.env))) _ _ s
  refine wpAny_bind (wpAny_mono (wpAny_comprehension_free (use := some (assign (.Name y py) X.env)) (Q := fun _ s' => SP X pins D .next s') rfl hs hcl hkind hnames ?_) (fun _ s' hq => wpAny_pure (wpAny_pure hq)) fun _ _ e => e)
  refine thn (hi pins s σ H _ I h) fun v s1 h1 => thn h1 fun itv s2 h2 => ?_
  obtain ⟨it, fp, tn, J, H2, e, I2, T, st2, f2, q2⟩ := h2
  subst e
  refine comp_core (RR := fun acc C => compPost (model X.prog X.w) X.A X.xe (some (assign (.Name y py) X.env)) (fun _ s' => SP X pins D .next s') acc C) hcl1 hcl2 hkind hcell (hcap.cap σ) (hcap.len σ) hc I2 T st2 f2 (hg cl) (ht cl) (he cl) q2 ?_
  rintro acc C H' s' I' hC ⟨m, hm⟩ hq
  show wpAny _ _ (assign (.Name y py) X.env (.ref acc)) _ _ _
  refine wpAny_assign_Name (store_ok2 I' hN hy (.inl hl) (v := .ref acc) rfl (fun s'' I'' hsb => ?_) (.inr hl))
  obtain ⟨a, hsb, ha⟩ := hsb
  have hCa : C ≠ a := by
    rcases ha with ha | ha
    · rw [ha]; exact hC.2.1
    · exact (hC.2.2.2.2.1 y a ha).symm
  refine ⟨m, hm.sameBut hsb hCa, fun h' hsb' => ⟨σ.set i (some (.ref acc)), H', ?_, hq⟩⟩
  exact I''.turned (t' := s''.toks) (fun b o hb e => hsb'.extBut b o hb e) hC.1 hC.2.1 hC.2.2.2.1 hC.2.2.2.2.1 hC.2.2.2.2.2
end
/-! ### how a comprehension is read -/
section
variable {K : PySem.W.Frag} {g : TG} {tt : TT} {te : TE} {σ0 : St} {H1 : Hp} {Q : VK}
end
end L2

set_option Elab.async false
set_option linter.all false
set_option maxRecDepth 100000
set_option maxHeartbeats 2000000
namespace L2
open PySem PySem.Spec PyProof.Rows
section
variable {X : Cx}
/-! ### sum, all, list, tuple of what is read -/
@[irreducible] def rSumA (K : PySem.W.Frag) (p : Addr) (H : Hp) (Q : VK) : Prop := ∃ ns : List Int, SqL K H p (ns.map V.int) ∧ Q (.int ns.sum) H
def rSumM (K : PySem.W.Frag) : List V → Hp → VK → Prop := fun xs H Q => match xs with
  | [.ref p] => rSumA K p H Q
  | _ => False
theorem boolsAre_of : ∀ {bs : List Bool} {us : List Value}, Vals (bs.map V.bl) us → LSm.BoolsAre us bs
  | [], us, r => by rw [List.map_nil] at r; cases r; exact .nil
  | b :: bs, us, r => by
    rw [List.map_cons] at r
    cases r with
    | cons r1 r2 =>
      cases r1
      exact .cons b (boolsAre_of r2)
@[irreducible] def rAllA (K : PySem.W.Frag) (p : Addr) (H : Hp) (Q : VK) : Prop := ∃ bs : List Bool, SqL K H p (bs.map V.bl) ∧ Q (.bl (bs.all id)) H
def rAllM (K : PySem.W.Frag) : List V → Hp → VK → Prop := fun xs H Q => match xs with
  | [.ref p] => rAllA K p H Q
  | _ => False
theorem cAll (hc : X.calm = true) : CallR X (.builtin "all") (rAllM X.K) := fun pins s σ H xs us Q I r h => by
  unfold rAllM at h
  split at h
  · rename_i p
    unfold rAllA at h
    obtain ⟨bs, h1, h2⟩ := h
    obtain ⟨u, rfl, rx⟩ := vals1 r
    cases rx
    obtain ⟨its, r', pl, hz⟩ := I.list h1
    have hb := boolsAre_of r'
    have hlt : p < s.heap.objs.size := by obtain ⟨_, e, _⟩ := pl.isList; exact Heap.lt_size e
    refine call_all_walk (wpAny_pyIter_list pl.isList ?_)
    refine ⟨s.heap.objs.size, [s.heap.objs.size, _], [s.heap.objs.size], its.toArray.size, _, _, fun i => (bs[i]?).getD true, rfl, Walks.list (A := X.A.in1) (I.ok.hd hc) _ _ (Nat.ne_of_lt hlt) its.toArray,
      ⟨⟨_, Heap.get?_push_size _ rfl, rfl, rfl⟩, pl.isList.push _⟩, fun i v s' Q' E' hP hQ => ?_, fun h' tk hk => ?_⟩
    · obtain ⟨b, e, rfl⟩ := hb.get i v (by simpa using hP)
      simp only [e, Option.getD_some] at hQ
      exact wpAny_truthy_bool hQ
    · have e : ((List.range its.toArray.size).all fun i => (bs[i]?).getD true) = bs.all id := by
        rw [List.size_toArray, hb.length]; exact LSm.range_all bs
      rw [e]
      exact ⟨.bl _, H, I.kept (LSm.kept_iter hk), rfl, h2⟩
  · exact h.elim
theorem all_rd {K : PySem.W.Frag} {p : Addr} {H : Hp} {Q : VK} {bs : List Bool} (h : H p = some (.lst (bs.map V.bl))) (q : Q (.bl (bs.all id)) H) : rAllA K p H Q := by unfold rAllA; exact ⟨bs, SqL.of h, q⟩
/-! ### methods of lists -/
@[irreducible] def rLstIs (K : PySem.W.Frag) (p : Addr) (H : Hp) (R : Prop) : Prop := (∃ xs, SqL K H p xs) ∧ R
def qBM (K : PySem.W.Frag) (r : Addr → List V → Hp → VK → Prop) (to : TE) (t : TA) : TE := fun σ H Q => to σ H fun x H1 => match x with
  | .ref p => rLstIs K p H1 (t σ H1 fun xs H2 => r p xs H2 Q)
  | _ => False
theorem lst_is {K : PySem.W.Frag} {p : Addr} {H : Hp} {R : Prop} {xs : List V} (h : H p = some (.lst xs)) (q : R) : rLstIs K p H R := by unfold rLstIs; exact ⟨⟨xs, SqL.of h⟩, q⟩
def MtA (X : Cx) (id : String) (r : Addr → List V → Hp → VK → Prop) : Prop :=
  ∀ (pins : List (Addr × Obj)) (s : Shared) (σ : St) (H : Hp) (p : Addr) (xs : List V) (us : List Value) (Q : VK), Inv X pins σ H s → Vals xs us → r p xs H Q →
    wpAny (model X.prog X.w) X.A (call (.builtin id) (.ref p :: us)) (EP X pins σ Q) X.xe s
theorem peBM {o e : Expr} {es : List Expr} {to : TE} {t : TA} {name : Str} {apos cpos : Pos} {id : String} {r : Addr → List V → Hp → VK → Prop} (slot : Slot "list" name id) (hty : typeOf (.builtin id) = pure (.type "method_descriptor")) (hm : MtA X id r) (ho : PE X o to) (ha : PA X (e :: es) t)
    (hbase : attributeBase o name X.env (eval o X.env) = eval o X.env := by rfl)
    (hfew : ((backTo cpos (starEach (e :: es) X.env)).all (fun x => !x.1) && (backToKw cpos (keywordEach [] X.env)).all (fun x => x.1.isSome)
      && decide ((e :: es).length + ([] : List Keyword).length + (if ([] : List Keyword).isEmpty then 0 else 1) < 30)) = true := by rfl)
    (hline : (apos.endLine == cpos.line) = true := by rfl) (hs : starEach (e :: es) X.env = (false, eval e X.env) :: starEach es X.env := by rfl) (hplain : (backTo cpos (starEach es X.env)).any (·.1) = false := by rfl) :
    PE X (.Call (.Attribute o name apos) (e :: es) [] cpos) (qBM X.K r to t) := by
  intro pins s σ H Q I h
  refine wpAny_Call_method_late hbase hfew hline rfl (thn (ho pins s σ H _ I h) fun v s1 ⟨x, H1, I1, r1, q1⟩ => ?_)
  dsimp only at q1
  split at q1
  · rename_i p
    unfold rLstIs at q1
    obtain ⟨hq, q1⟩ := q1
    obtain ⟨h1, h2⟩ := tyV_is (T := "list") I1 r1 (.inl ⟨rfl, hq⟩)
    refine ⟨"list", id, PySem.F.plainAttrs_list, slot, hty, h1, h2, ?_⟩
    have hA := ha cpos pins s1 σ H1 _ I1 q1
    rw [hs] at hA ⊢
    refine Calls.callWith_builtin (by show (false || (backTo cpos (starEach es X.env)).any (·.1)) = false; rw [hplain] <;> rfl) (Calls.evalArgs_plain ?_)
    cases r1
    exact thn hA fun us s2 ⟨vs, H2, I2, r2, q2⟩ => hm pins s2 σ H2 p vs us Q I2 r2 q2
  · exact q1.elim
@[irreducible] def rAppA (p : Addr) (v : V) (H : Hp) (Q : VK) : Prop := ∃ xs, H p = some (.lst xs) ∧ xs.length < sizeLine ∧ ∀ H', Chg p H H' → H' p = some (.lst (xs ++ [v])) → Q .non H'
def rAppM : Addr → List V → Hp → VK → Prop := fun p vs H Q => match vs with
  | [v] => rAppA p v H Q
  | _ => False
theorem mAppend : MtA X "list.append" rAppM := fun pins s σ H p xs us Q I r h => by
  unfold rAppM at h
  split at h
  · unfold rAppA at h
    obtain ⟨ys, h1, h2, h3⟩ := h
    exact mt_append pins s σ H (.ref p) _ (.ref p) us Q I rfl r ⟨p, ys, _, rfl, rfl, h1, h2, h3 _ Chg.upd upd_same⟩
  · exact h.elim
theorem app_rd {p : Addr} {v : V} {H : Hp} {Q : VK} {xs : List V} (h : H p = some (.lst xs)) (hz : xs.length < sizeLine) (q : ∀ H', Chg p H H' → H' p = some (.lst (xs ++ [v])) → Q .non H') : rAppA p v H Q := by unfold rAppA; exact ⟨xs, h, hz, q⟩
theorem peM_append {o e : Expr} {to : TE} {t : TA} {apos cpos : Pos} (ho : PE X o to) (ha : PA X [e] t) (hbase : attributeBase o "append" X.env (eval o X.env) = eval o X.env := by rfl)
    (hfew : ((backTo cpos (starEach [e] X.env)).all (fun x => !x.1) && (backToKw cpos (keywordEach [] X.env)).all (fun x => x.1.isSome)
      && decide ([e].length + ([] : List Keyword).length + (if ([] : List Keyword).isEmpty then 0 else 1) < 30)) = true := by rfl)
    (hline : (apos.endLine == cpos.line) = true := by rfl) (hs : starEach [e] X.env = (false, eval e X.env) :: starEach [] X.env := by rfl) (hplain : (backTo cpos (starEach [] X.env)).any (·.1) = false := by rfl) : PE X (.Call (.Attribute o "append" apos) [e] [] cpos) (qBM X.K rAppM to t) :=
  peBM PySem.F.slot_list_append PySem.F.type_list_append mAppend ho ha hbase hfew hline hs hplain
/-! ### name op= e -/
/-! ### is None -/
def rIsM : R2 := fun x y H Q => match y with
  | .non => Q (.bl (decide (x = .non))) H
  | _ => False
theorem oIs : OpR X (compareOp .Is) rIsM := by
  intro pins s σ H x y v u Q I rx ry h
  unfold rIsM at h
  split at h
  · exact op_isN pins s σ H _ _ v u Q I rx ry ⟨rfl, h⟩
  · exact h.elim
/-! ### a, b = a list -/
section
variable {prog : Program} {w : World} {A : Around} {E : Value → Shared → Prop} {s : Shared}
theorem draw_list {it t : Addr} {items : Array Value} (hne : t ≠ it) : ∀ (n i : Nat) (s : Shared) (Q : List Value → Shared → Prop), s.heap.IsListIter it t i → s.heap.IsList t items → i + n ≤ items.size →
    (∀ h', h'.IsListIter it t (i + n) → Heap.SameBut it s.heap h' → Q ((items.toList.drop i).take n) { s with heap := h' }) → wpAny (model prog w) A (draw (.ref it) n) Q E s
  | 0, i, s, Q, hit, _, _, hQ => by
    show wpAny _ _ (pure []) Q E s
    exact wpAny_pure (by simpa using hQ s.heap hit (Heap.SameBut.refl ..))
  | n + 1, i, s, Q, hit, ht, hle, hQ => by
    have hlt : i < items.size := by omega
    show wpAny _ _ (pyNext (.ref it) >>= _) Q E s
    refine wpAny_bind (wpAny_pyNext_list_item hit ht (x := items[i]) (by simp [hlt]) fun h₁ hit₁ hs₁ => ?_)
    refine wpAny_bind (wpAny_holding (draw_list hne n (i + 1) _ _ hit₁ (ht.extBut hs₁.extBut hne) (by omega) fun h₂ hit₂ hs₂ => wpAny_pure ?_))
    have hd : items.toList.drop i = items[i] :: items.toList.drop (i + 1) := by simp [List.drop_eq_getElem_cons, hlt]
    have := hQ h₂ (by rw [show i + (n + 1) = i + 1 + n by omega]; exact hit₂) (hs₁.trans hs₂)
    rw [hd, List.take_succ_cons] at this
    exact this
theorem assign_Tuple_list {env : Env} {elts : List Expr} {x1} {pos : Pos} {t : Addr} {items : Array Value} {Q : Unit → Shared → Prop} (hh : A.handled = none) (ht : s.heap.IsList t items)
    (hn : (assignEach elts env).length = items.size) (hstar : (assignEach elts env).findIdx? (·.1) = none)
    (h : ∀ h', Heap.ExtBut s.heap.objs.size s.heap h' → wpAny (model prog w) A (assignInOrder ((assignEach elts env).map (·.2)) items.toList) Q E { s with heap := h' }) :
    wpAny (model prog w) A (assign (.Tuple elts x1 pos) env (.ref t)) Q E s := by
  rw [assign_Tuple]
  refine wpAny_bind (wpAny_standAt ?_)
  unfold unpack
  rw [hn, hstar]
  refine wpAny_bind (wpAny_holding ?_)
  have hlt : t ≠ s.heap.objs.size := by obtain ⟨o, ho, _⟩ := ht; exact Nat.ne_of_lt (Heap.lt_size ho)
  unfold unpackItems
  refine wpAny_bind ?_
  unfold notIterableAtAll
  refine wpAny_bind (wpAny_specialOf ht.typeIs F.slot_list_iter.lookup ?_)
  refine wpAny_pure ?_
  simp only [Bool.false_eq_true, if_false]
  refine wpAny_bind (wpAny_holding (wpAny_pyIter_list ht ?_))
  refine wpAny_bind (wpAny_holding (draw_list hlt items.size 0 _ _ ⟨_, Heap.get?_push_size _ rfl, rfl, rfl⟩ (ht.push _) (by omega) fun h₁ hit₁ hs₁ => ?_))
  have hall : List.take items.size (List.drop 0 items.toList) = items.toList := by
    rw [List.drop_zero]; exact List.take_of_length_le (by simp)
  rw [hall]
  rw [if_neg (by simp)]
  have ht₁ : h₁.IsList t items := (ht.push _).extBut hs₁.extBut hlt
  refine wpAny_bind (wpAny_holding (wpAny_pyNext_list_end hh hit₁ ht₁ (by simp) fun h₂ he₂ => ?_))
  simp only [Option.isSome_none, Bool.false_eq_true, if_false]
  exact wpAny_pure (h h₂ fun b o hb e => he₂ b o hb (hs₁.extBut b o hb (Heap.get?_push_of_some _ e)))
end
@[irreducible] def rUnpA (K : PySem.W.Frag) (a : Addr) (n : Nat) (t : TGs) (σ : St) (H : Hp) (Q : St → Hp → Prop) : Prop := ∃ xs, (SqT K H a xs ∨ SqL K H a xs) ∧ xs.length = n ∧ t xs σ H Q
def qgAny (K : PySem.W.Frag) (n : Nat) (t : TGs) : TG := fun v σ H Q => match v with
  | .ref a => rUnpA K a n t σ H Q
  | _ => False
theorem pgAny {pos : Pos} {es : List Expr} {k : Nat} {t : TGs} {n : Nat} (hc : X.calm = true) (h : PGs X es t)
    (hn : (assignEach es X.env).length = n := by rfl) (hst : (assignEach es X.env).findIdx? (·.1) = none := by rfl) : PG X (.Tuple es k pos) (qgAny X.K n t) := fun pins s σ H v u Q I r hq => by
  unfold qgAny at hq
  split at hq
  · unfold rUnpA at hq
    obtain ⟨xs, a1, a2, a3⟩ := hq
    rcases a1 with a1 | a1
    · exact pg_tup hc h hn hst pins s σ H _ u Q I r ⟨_, xs, rfl, a1, a2, a3⟩
    · cases r
      obtain ⟨its, rv, pl, hz⟩ := I.list a1
      refine assign_Tuple_list (I.ok.hd hc) pl.isList (by simp [hn, ← a2, rv.length]) hst fun h' hx => ?_
      have I1 : Inv X pins σ H { s with heap := h' } := I.kept (t' := s.toks) fun b o e => hx b o (Nat.ne_of_lt (Heap.lt_size e)) e
      exact h pins _ σ H xs _ Q I1 (by simpa using rv) a3
  · exact hq.elim
theorem unpT_rd {K : PySem.W.Frag} {a : Addr} {n : Nat} {t : TGs} {σ : St} {H : Hp} {Q : St → Hp → Prop} {xs : List V} (h : H a = some (.tup xs)) (q : t xs σ H Q) (e : xs.length = n := by rfl) : rUnpA K a n t σ H Q := by
  unfold rUnpA; exact ⟨xs, .inl (SqT.of h), e, q⟩
end
/-! ### two objects may have changed -/
def Chg2 (a c : Addr) (H H' : Hp) : Prop := ∀ b o, b ≠ a → b ≠ c → H b = some o → H' b = some o
theorem Chg2.refl (a c : Addr) (H : Hp) : Chg2 a c H H := fun _ _ _ _ e => e
theorem Chg2.trans {a c : Addr} {H H1 H2 : Hp} (x : Chg2 a c H H1) (y : Chg2 a c H1 H2) : Chg2 a c H H2 := fun b o h1 h2 e => y b o h1 h2 (x b o h1 h2 e)
theorem Chg2.same {a c : Addr} {H H1 H2 : Hp} (x : Chg2 a c H H1) (y : Same H1 H2) : Chg2 a c H H2 := fun b o h1 h2 e => y b o (x b o h1 h2 e)
theorem Chg.toL {a c : Addr} {H H1 : Hp} (x : Chg a H H1) : Chg2 a c H H1 := fun b o h1 _ e => x b o h1 e
theorem Chg.toR {a c : Addr} {H H1 : Hp} (x : Chg c H H1) : Chg2 a c H H1 := fun b o _ h2 e => x b o h2 e
theorem Same.to2 {a c : Addr} {H H1 : Hp} (x : Same H H1) : Chg2 a c H H1 := fun b o _ _ e => x b o e
theorem Chg2.at {a c b : Addr} {o : HO} {H H' : Hp} (x : Chg2 a c H H') (e : H b = some o) (h1 : b ≠ a) (h2 : b ≠ c) : H' b = some o := x b o h1 h2 e
/-! == with an empty list -/
/-! ### comprehensions whose elements change things: the word speaks of the heap by itself -/
def cV (n : Nat) (acc : Addr) (Pv : Nat → List V → St → Hp → Prop) : Nat → Nat → List V → St → Hp → Prop := fun i m ys σ H => m = n - i ∧ i ≤ n ∧ ys.length ≤ i ∧ H acc = some (.lst ys) ∧ Pv i ys σ H
section
variable {K : PySem.W.Frag} {g : TG} {tt : TT} {te : TE} {σ0 : St} {H1 : Hp} {Q : VK}
theorem cputV_rd {n i m : Nat} {acc : Addr} {Pv : Nat → List V → St → Hp → Prop} {ys : List V} {σ2 : St} {v : V} {H5 : Hp} (hi : i < n) (hm : m = n - i) (hl : ys.length ≤ i) (ha : H5 acc = some (.lst ys))
    (q : ∀ H6, Chg acc H5 H6 → H6 acc = some (.lst (ys ++ [v])) → Pv (i + 1) (ys ++ [v]) σ2 H6) : cPut (cV n acc Pv) acc ys i m σ2 v H5 := by
  unfold cPut
  exact ⟨ha, fun H6 hc h6 => ⟨n - (i + 1), by omega, rfl, by omega, by rw [List.length_append, List.length_singleton]; omega, h6, q H6 hc h6⟩⟩
theorem comp_rangeV {lo : Int} {n : Nat} (hn : n < sizeLine) (h : ∀ acc H2, H1 acc = none → Same H1 H2 → H2 acc = some (.lst []) → ∃ Pv : Nat → List V → St → Hp → Prop, Pv 0 [] σ0 H2 ∧
    (∀ i m ys σ H, i < n → m = n - i → ys.length ≤ i → H acc = some (.lst ys) → Pv i ys σ H → g (.int (lo + i)) σ H fun σ2 H3 => tt σ2 H3 fun b H4 => br b (te σ2 H4 fun v H5 => cPut (cV n acc Pv) acc ys i m σ2 v H5) (cSkip (cV n acc Pv) ys i m σ2 H4)) ∧
    ∀ ys σ H, H acc = some (.lst ys) → Pv n ys σ H → Q (.ref acc) H) : compW (Itr lo n) g tt te σ0 H1 Q := by
  unfold compW
  intro acc H2 hf hs ha
  obtain ⟨Pv, h0, turn, fin⟩ := h acc H2 hf hs ha
  refine ⟨cV n acc Pv, ⟨n, by simp, Nat.zero_le _, Nat.le_refl _, ha, h0⟩, ?_⟩
  rintro i m ys σ H ⟨hm, hi, hl, ha', hp⟩
  refine ⟨ha', by omega, ?_⟩
  by_cases hlt : i < n
  · refine .inr ⟨hlt, fun x H' y => ?_⟩
    obtain ⟨e, y⟩ := y
    subst e y
    exact turn i m ys σ _ hlt hm hl ha' hp
  · have e : i = n := by omega
    subst e
    exact .inl ⟨Nat.le_refl _, fin ys σ H ha' hp⟩
end
/-! ### the rules by the written part itself, so that a block's reading hangs on nothing of the block -/
section
variable {X : Cx} {K : PySem.W.Frag}
theorem peIxK {a b : Expr} {ta tb : TE} {pos : Pos} (hK : X.K = K) (ha : PE X a ta) (hb : PE X b tb) (hs : PlainIx b := by exact fun _ _ => rfl) : PE X (.Subscript a b pos) (tOp (rIxM K) ta tb) := by subst hK; exact peIx ha hb hs
theorem cLenK (hK : X.K = K) : CallR X (.builtin "len") (rLenM K) := by subst hK; exact cLen
theorem cIsiK (hK : X.K = K) : CallR X (.builtin "isinstance") (rIsiM K) := by subst hK; exact cIsi
theorem cAllK (hK : X.K = K) (hc : X.calm = true) : CallR X (.builtin "all") (rAllM K) := by subst hK; exact cAll hc
theorem oEqK (hK : X.K = K) (hu : X.A.units + 40 < cLine) : OpR X (compareOp .Eq) (rEqM K) := by subst hK; exact oEq hu
theorem oNeK (hK : X.K = K) (hu : X.A.units + 40 < cLine) : OpR X (compareOp .NotEq) (rNeM K) := by subst hK; exact oNe hu
theorem piSeqK {tg l : Expr} {tl : TE} (hK : X.K = K) (hl : PE X l tl) : PI X tg l (qiSeq K tl) := by subst hK; exact piSeq hl
theorem pgAnyK {pos : Pos} {es : List Expr} {k : Nat} {t : TGs} {n : Nat} (hK : X.K = K) (hc : X.calm = true) (h : PGs X es t)
    (hn : (assignEach es X.env).length = n := by rfl) (hst : (assignEach es X.env).findIdx? (·.1) = none := by rfl) : PG X (.Tuple es k pos) (qgAny K n t) := by subst hK; exact pgAny hc h hn hst
end
end L2

set_option Elab.async false
set_option linter.all false
set_option maxRecDepth 100000
set_option maxHeartbeats 2000000
namespace L2
open PySem PySem.Spec PyProof.Rows
/-! ### enumerate over a list -/
def Ite (K : PySem.W.Frag) (a : Addr) : It :=
  ⟨fun i H => ∃ xs x, SqL K H a xs ∧ xs[i]? = some x, fun i H v H' => ∃ p y, v = .ref p ∧ H p = none ∧ Same H H' ∧ H' p = some (.tup [.int i, y]) ∧ ∀ xs, SqL K H a xs → xs[i]? = some y, fun i H => ∃ xs, SqL K H a xs ∧ xs.length ≤ i⟩
theorem turn_enum {P : Program} {w : World} {K : PySem.W.Frag} {elts : List Expr} {k : Nat} {pos : Pos} (a it e : Addr) (hne : e ≠ it) : Turn P w K (.Tuple elts k pos) (Ite K a) [it, e] e (fun i h => (∃ old, IsEnum h e it i old) ∧ h.IsListIter it a i) where
  mem := by simp
  obj := fun i h st b hb => by
    obtain ⟨⟨old, he⟩, o, e1, c, d⟩ := st
    rcases List.mem_cons.mp hb with rfl | hb
    · exact ⟨o, e1, fun v z => by rw [d] at z; cases z⟩
    · have : b = e := by simpa using hb
      subst this
      exact ⟨_, he, fun v z => by cases z⟩
  keep := fun i h h' st kp => by
    obtain ⟨⟨old, he⟩, hi⟩ := st
    exact ⟨⟨old, kp e (by simp) _ he⟩, hi.at fun o x => kp it (by simp) o x⟩
  item := by
    intro X hP hw hK hc i pins s σ H E I hf st hg
    subst hP hw hK
    obtain ⟨⟨old, he⟩, hit⟩ := st
    obtain ⟨xs, x, hq, hx⟩ := hg
    obtain ⟨its, rv, p, hz⟩ := I.list hq
    obtain ⟨u, hu, ru⟩ := rv.get hx
    obtain ⟨f0, f1, f2, f3, f4, f5⟩ := hf it (by simp)
    obtain ⟨g0, g1, g2, g3, g4, g5⟩ := hf e (by simp)
    refine wpAny_pyNext_enum_item he hit p.isList (x := u) (by simpa using hu) hne fun h1 heo hit1 ht1 hz1 hk1 => ?_
    refine ⟨_, rfl, wpAny_letOwnedTupleGo_enum heo fun h2 he2 hs2 => ?_⟩
    replace hs2 : Heap.SameBut e h1 h2 := hs2
    have hel : e < s.heap.objs.size := Heap.lt_size he
    have kp : ∀ b o, b ∉ [it, e] → s.heap.get? b = some o → h2.get? b = some o := fun b o hb x => by
      have b1 : b ≠ it := fun z => hb (by simp [z])
      have b2 : b ≠ e := fun z => hb (by simp [z])
      exact (hs2.2 b b2).trans (hk1 b o b2 b1 x)
    have ht2 : h2.get? s.heap.objs.size = some { cls := .type "tuple", data := .seq #[.int i s.toks, u] } := (hs2.2 _ (Nat.ne_of_gt hel)).trans ht1
    have hfr : H s.heap.objs.size = none := I.fresh
    have nof : ∀ b v, H b = some v → b ∉ [it, e] := fun b v hb z => by
      rcases List.mem_cons.mp z with rfl | z
      · rw [f0] at hb; cases hb
      · have : b = e := by simpa using z
        subst this
        rw [g0] at hb; cases hb
    have nlt : ∀ b o, s.heap.get? b = some o → b ≠ s.heap.objs.size := fun b o x => Nat.ne_of_lt (Heap.lt_size x)
    have hok : HOk X.prog X.w (upd H s.heap.objs.size (.tup [.int i, x])) h2 := fun b v hb => by
      by_cases e1 : b = s.heap.objs.size
      · subst e1
        rw [upd_same] at hb
        cases hb
        exact ⟨by show 2 ≤ sizeLine; decide, [.int i s.toks, u], .cons ⟨_, rfl⟩ (.cons ru .nil), ⟨_, ht2, rfl, _, rfl⟩⟩
      · rw [upd_ne e1] at hb
        refine (I.hok b v hb).stay (fun c w' hc q => ?_) (fun c q => ?_) (fun c ys q => ?_)
        · rcases hc with rfl | hc
          · exact kp _ _ (nof _ _ hb) q
          · exact kp _ _ (nof _ _ hc) q
        · rw [upd_ne (ne_of_none q hfr)]; exact q
        · rw [upd_ne (ne_of_none q hfr)]; exact q
    have chs : ∀ b ∈ [it, e], (b ∈ X.ex ∨ X.s₀.heap.objs.size ≤ b) ∧ b ≠ X.env.locals ∧ (∀ x c, X.env.cells.lookup x = some c → c ≠ b) ∧ ∀ p ∈ X.pn ++ pins, p.1 ≠ b := fun b hb => by
      rcases List.mem_cons.mp hb with rfl | hb
      · exact ⟨f3, f1, f4, f5⟩
      · have : b = e := by simpa using hb
        subst this
        exact ⟨g3, g1, g4, g5⟩
    have I2 : Inv X pins σ (upd H s.heap.objs.size (.tup [.int i, x])) { s with heap := h2, toks := s.toks + 1 } :=
      I.step (g' := s.gens) (d' := s.drawn) (t' := s.toks + 1) (ch := [it, e]) chs (fun b o _ _ hb x _ => kp b o hb x) (fun b o _ _ hb x _ => ⟨o.slots, kp b o hb x⟩)
        (fun b o _ x n => by rw [upd_ne (nlt b o x)]; exact n) (fun b o hb x => ⟨o, kp b o hb x⟩) (fun b ys q => by rw [upd_ne (ne_of_none q hfr)]; exact q) (fun b o v q => by rw [upd_ne (ne_of_none q hfr)]; exact q)
        (fun b ps q => ⟨#[], by rw [upd_ne (ne_of_none q hfr), q]; simp⟩)
        (fun m hm => by
          obtain ⟨o, es, ep, ho, r⟩ := hm
          exact ⟨o, es, ep, kp _ o (fun z => by
            rcases List.mem_cons.mp z with z | z
            · exact f1 z.symm
            · exact g1 (by simpa using z : X.env.locals = e).symm) ho, r⟩) hok I.bare
    have hi1 : h2.IsListIter it a (i + 1) := hit1.extBut hs2.extBut (Ne.symm hne)
    have he3 : IsEnum h2 e it ((i + 1 : Nat) : Int) u := by
      have : ((i + 1 : Nat) : Int) = (i : Int) + 1 := by push_cast; rfl
      rw [this]; exact he2
    refine ⟨.ref s.heap.objs.size, _, I2, rfl, ⟨_, x, rfl, hfr, Same.upd hfr, upd_same, fun ys hy => by rw [I.list_inj hy hq]; exact hx⟩, ⟨⟨u, he3⟩, hi1⟩, fun b hb => ?_⟩
    have hb0 : H b = none := (hf b hb).1
    have hlt : b ≠ s.heap.objs.size := by
      rcases List.mem_cons.mp hb with rfl | hb
      · obtain ⟨o, ho, _⟩ := hit; exact nlt _ _ ho
      · have : b = e := by simpa using hb
        subst this
        exact Nat.ne_of_lt hel
    rw [upd_ne hlt]; exact hb0
  done := by
    intro X hP hw hK hc i pins s σ H E I hf st hg
    subst hP hw hK
    obtain ⟨⟨old, he⟩, hit⟩ := st
    obtain ⟨xs, hq, hx⟩ := hg
    obtain ⟨its, rv, p, hz⟩ := I.list hq
    obtain ⟨f0, f1, f2, f3, f4, f5⟩ := hf it (by simp)
    have hl := rv.length
    exact wpAny_pyNext_enum_end (I.ok.hd hc) he hit p.isList (by simp; omega) fun h' eb => ⟨rfl, I.turned (t' := s.toks) (fun b o hb e => eb b o hb e) f0 f1 f3 f4 f5⟩
  self := fun _ _ _ _ _ st h => by
    obtain ⟨⟨old, he⟩, _⟩ := st
    exact wpAny_pyIter_enum he h
section
variable {X : Cx} {K : PySem.W.Frag}
theorem bt_enumerate : bootBuiltins "enumerate" = some (.type "enumerate") := by decide +kernel
@[irreducible] def rEnum (K : PySem.W.Frag) (a : Addr) (H : Hp) (R : It → Hp → Prop) : Prop := (∃ xs, SqL K H a xs) ∧ R (Ite K a) H
def qiEnum (K : PySem.W.Frag) (ta : TA) : TI := fun σ H R => ta σ H fun vs H1 => match vs with
  | [.ref a] => rEnum K a H1 R
  | _ => False
theorem piEnum {elts : List Expr} {k : Nat} {pt : Pos} {a : Expr} {ta : TA} {p pos : Pos} (hm : X.mg "enumerate" = none) (ha : PA X [a] ta) (hg : Gl X "enumerate" := by rfl) (hs : starEach [a] X.env = [(false, eval a X.env)] := by rfl) :
    PI X (.Tuple elts k pt) (.Call (.Name "enumerate" p) [a] [] pos) (qiEnum X.K ta) := by
  intro pins s σ H R I h
  refine Call_ (ld_blt I hg hm bt_enumerate (PyProof.Rows.callWith_type1 (thn (ha pos pins s σ H _ I h) fun us s1 ⟨vs, H1, I1, r1, q1⟩ => ?_) hs rfl))
  dsimp only at q1
  split at q1
  · rename_i l
    unfold rEnum at q1
    obtain ⟨⟨xs, hq⟩, q⟩ := q1
    obtain ⟨u, rfl, rx⟩ := vals1 r1
    cases rx
    obtain ⟨its, rv, pl, hz⟩ := I1.list hq
    refine call_enumerate_list pl.isList fun h' he hit hsz hk => ?_
    refine wpAny_pyIter_enum he ?_
    have I2 : Inv X pins σ H1 { s1 with heap := h' } := I1.kept (t' := s1.toks) hk
    refine ⟨s1.heap.objs.size + 1, [s1.heap.objs.size, s1.heap.objs.size + 1], _, Ite X.K l, H1, rfl, I2, turn_enum l _ _ (Nat.succ_ne_self _), ⟨⟨_, he⟩, hit⟩, fun b hb => ?_, q⟩
    have hb' : s1.heap.objs.size ≤ b := by
      rcases List.mem_cons.mp hb with rfl | hb
      · exact Nat.le_refl _
      · have : b = s1.heap.objs.size + 1 := by simpa using hb
        subst this
        exact Nat.le_succ _
    exact I1.fpOk hb' (I1.hok.fresh hb')
  · exact q1.elim
theorem piEnumK {elts : List Expr} {k : Nat} {pt : Pos} {a : Expr} {ta : TA} {p pos : Pos} (hK : X.K = K) (hm : X.mg "enumerate" = none) (ha : PA X [a] ta) (hg : Gl X "enumerate" := by rfl) (hs : starEach [a] X.env = [(false, eval a X.env)] := by rfl) :
    PI X (.Tuple elts k pt) (.Call (.Name "enumerate" p) [a] [] pos) (qiEnum K ta) := by subst hK; exact piEnum hm ha hg hs
end
section
variable {K : PySem.W.Frag} {g : TG} {tb : TS} {D : Ends} {σ : St} {H : Hp} {R : It → Hp → Prop}
theorem enum_rd {a : Addr} {xs : List V} (h : H a = some (.lst xs)) (q : R (Ite K a) H) : rEnum K a H R := by unfold rEnum; exact ⟨⟨xs, SqL.of h⟩, q⟩
theorem loop_enum {a : Addr} {xs : List V} (Pv : Nat → St → Hp → Prop) (h0 : Pv 0 σ H) (hl : ∀ i σ H, i ≤ xs.length → Pv i σ H → SqL K H a xs)
    (hs : ∀ i y σ H p H', xs[i]? = some y → Pv i σ H → H p = none → Same H H' → H' p = some (.tup [.int i, y]) → g (.ref p) σ H' fun σ2 H2 => tb { D with nx := Pv (i + 1), ct := Pv (i + 1), bk := D.nx } σ2 H2) (hd : ∀ σ H, Pv xs.length σ H → D.nx σ H) : loopW (Ite K a) g tb D σ H := by
  unfold loopW
  refine ⟨fun i m σ H => m = xs.length - i ∧ i ≤ xs.length ∧ Pv i σ H, ⟨xs.length, by simp, Nat.zero_le _, h0⟩, ?_⟩
  rintro i m σ H ⟨rfl, hi, p⟩
  have q := hl i σ H hi p
  by_cases hlt : i < xs.length
  · refine .inr ⟨⟨xs, xs[i], q, by simp [hlt]⟩, Pv (i + 1), fun σ' H' p' => ⟨xs.length - (i + 1), by omega, rfl, hlt, p'⟩, fun x H' y => ?_⟩
    obtain ⟨pp, yy, rfl, y1, y2, y3, y4⟩ := y
    exact hs i yy σ H pp H' (y4 xs q) p y1 y2 y3
  · have e : i = xs.length := by omega
    subst e
    exact .inl ⟨⟨xs, q, Nat.le_refl _⟩, hd σ H p⟩
end
section
variable {K : PySem.W.Frag} {g : TG} {tt : TT} {te : TE} {σ0 : St} {H1 : Hp} {Q : VK}
end
/-! ### list.count of flat things -/
section
variable {X : Cx} {K : PySem.W.Frag}
theorem count_eqU {x : V} : ∀ {xs : List V} {us : List Value}, Vals xs us → xs.all flatV = true → us.countP (eqU x) = xs.countP fun y => eqV y x
  | _, _, .nil, _ => rfl
  | y :: xs, u :: us, .cons r t, f => by
    rw [List.all_cons, Bool.and_eq_true] at f
    rw [List.countP_cons, List.countP_cons, eqU_of r f.1, count_eqU t f.2]
@[irreducible] def rCntA (p : Addr) (x : V) (H : Hp) (Q : VK) : Prop := ∃ xs, H p = some (.lst xs) ∧ flatV x = true ∧ xs.all flatV = true ∧ Q (.int (xs.countP fun y => eqV y x : Nat)) H
def rCntM : Addr → List V → Hp → VK → Prop := fun p vs H Q => match vs with
  | [v] => rCntA p v H Q
  | _ => False
theorem mCount : MtA X "list.count" rCntM := fun pins s σ H p xs us Q I r h => by
  unfold rCntM at h
  split at h
  · rename_i v
    unfold rCntA at h
    obtain ⟨ys, h1, h2, h3, h4⟩ := h
    obtain ⟨u, rfl, ru⟩ := r.one
    obtain ⟨z, its, n, r', hl, e⟩ := I.lstM h1
    refine call_meets F.slot_list_count ⟨_, e, rfl⟩ F.entry_list_count (F.args_list_count_2 _ _) (SeqAt.list_countAt p its.toArray n none #[] u (eqU v)) ⟨e, fun y hy => mem_eqAt ru h2 r' h3 y (by simpa using hy), ?_⟩
    have ec : its.toArray.toList.countP (eqU v) = ys.countP fun y => eqV y v := count_eqU r' h3
    exact ⟨.int _, H, I.tok _, ⟨_, by rw [ec]⟩, h4⟩
  · exact h.elim
theorem cnt_rd {p : Addr} {x : V} {H : Hp} {Q : VK} {xs : List V} (h : H p = some (.lst xs)) (h1 : flatV x = true) (h2 : xs.all flatV = true) (q : Q (.int (xs.countP fun y => eqV y x : Nat)) H) : rCntA p x H Q := by unfold rCntA; exact ⟨xs, h, h1, h2, q⟩
theorem peM_count {o e : Expr} {to : TE} {t : TA} {apos cpos : Pos} (hK : X.K = K) (ho : PE X o to) (ha : PA X [e] t) (hbase : attributeBase o "count" X.env (eval o X.env) = eval o X.env := by rfl)
    (hfew : ((backTo cpos (starEach [e] X.env)).all (fun x => !x.1) && (backToKw cpos (keywordEach [] X.env)).all (fun x => x.1.isSome)
      && decide ([e].length + ([] : List Keyword).length + (if ([] : List Keyword).isEmpty then 0 else 1) < 30)) = true := by rfl)
    (hline : (apos.endLine == cpos.line) = true := by rfl) (hs : starEach [e] X.env = (false, eval e X.env) :: starEach [] X.env := by rfl) (hplain : (backTo cpos (starEach [] X.env)).any (·.1) = false := by rfl) : PE X (.Call (.Attribute o "count" apos) [e] [] cpos) (qBM K rCntM to t) := by
  subst hK
  exact peBM PySem.F.slot_list_count PySem.F.type_list_count mCount ho ha hbase hfew hline hs hplain
end
end L2

set_option Elab.async false
set_option linter.all false
set_option maxRecDepth 100000
set_option maxHeartbeats 2000000
namespace L2
open PySem PySem.Spec PyProof.Rows
/-! ### slices -/
theorem cut_drop {xs : List V} {k : Int} (h : 0 ≤ k) : cutV xs (some k) none = xs.drop k.toNat := by
  show List.take (xs.length - (if k < 0 then (k + (xs.length : Int)).toNat else min k.toNat xs.length)) (List.drop (if k < 0 then (k + (xs.length : Int)).toNat else min k.toNat xs.length) xs) = _
  rw [if_neg (by omega)]
  by_cases hk : k.toNat ≤ xs.length
  · rw [Nat.min_eq_left hk, List.take_of_length_le (by rw [List.length_drop]; omega)]
  · rw [Nat.min_eq_right (by omega), List.drop_of_length_le (by omega), List.drop_of_length_le (by omega), List.take_nil]
theorem cut_takeV {xs : List V} {k : Int} (h : 0 ≤ k) : cutV xs none (some k) = xs.take k.toNat := by
  show List.take ((if k < 0 then (k + (xs.length : Int)).toNat else min k.toNat xs.length) - 0) (List.drop 0 xs) = _
  rw [if_neg (by omega), List.drop_zero, Nat.sub_zero]
  by_cases hk : k.toNat ≤ xs.length
  · rw [Nat.min_eq_left hk]
  · rw [Nat.min_eq_right (by omega), List.take_of_length_le (Nat.le_refl _), List.take_of_length_le (by omega)]
theorem cut_init {xs : List V} : cutV xs none (some (-1)) = xs.take (xs.length - 1) := by
  show List.take ((if (-1 : Int) < 0 then ((-1 : Int) + (xs.length : Int)).toNat else min (-1 : Int).toNat xs.length) - 0) (List.drop 0 xs) = _
  rw [if_pos (by decide), List.drop_zero, Nat.sub_zero]
  congr 1
  omega
/-! ### rows of ints, by a function -/
def rowV (n : Nat) (r : Nat → Int) : List V := (List.range n).map fun t => V.int (r t)
/-! ### an item by a place -/
theorem at_last {xs : List V} {v : V} {n : Nat} (h : xs.length = n + 1) (e : xs[n]? = some v) : atI xs (-1) = some v := by
  unfold atI ixN
  rw [if_neg (by decide), if_pos (by omega)]
  show xs[((-1 : Int) + xs.length).toNat]? = _
  rw [show ((-1 : Int) + xs.length).toNat = n by omega]; exact e
/-! ### a list of rows -/
structure GridAt (H : Hp) (a : Addr) (ps : List Addr) (n h : Nat) (g : Nat → Nat → Int) : Prop where
  out : H a = some (.lst (ps.map V.ref))
  len : ps.length = n
  row : ∀ (i : Nat) (p : Addr), ps[i]? = some p → H p = some (.lst (rowV h (g i)))
theorem GridAt.same {H H' : Hp} {a : Addr} {ps : List Addr} {n h : Nat} {g : Nat → Nat → Int} (G : GridAt H a ps n h g) (s : Same H H') : GridAt H' a ps n h g := ⟨s _ _ G.out, G.len, fun i p e => s _ _ (G.row i p e)⟩
theorem GridAt.some {H : Hp} {a : Addr} {ps : List Addr} {n h : Nat} {g : Nat → Nat → Int} (G : GridAt H a ps n h g) {i : Nat} (hi : i < n) : ∃ p, ps[i]? = .some p ∧ H p = .some (.lst (rowV h (g i))) := by
  have hl : i < ps.length := by rw [G.len]; exact hi
  exact ⟨ps[i], List.getElem?_eq_getElem hl, G.row i _ (List.getElem?_eq_getElem hl)⟩
/-! ### comprehensions, by what is walked -/
structure Wk (J : It) (n : Nat) (H1 : Hp) (X : Nat → V → Hp → Prop) : Prop where
  go : ∀ i H, Same H1 H → i < n → J.go i H
  stop : ∀ H, Same H1 H → J.stop n H
  yld : ∀ i H x H', Same H1 H → i < n → J.yld i H x H' → Same H H' ∧ X i x H'
theorem Wk.range {lo : Int} {n : Nat} {H1 : Hp} : Wk (Itr lo n) n H1 fun i x _ => x = .int (lo + i) :=
  ⟨fun i H _ h => h, fun H _ => Nat.le_refl _, fun i H x H' _ _ y => by obtain ⟨rfl, rfl⟩ := y; exact ⟨Same.refl _, rfl⟩⟩
theorem Wk.list {K : PySem.W.Frag} {a : Addr} {xs : List V} {H1 : Hp} (h : SqL K H1 a xs) : Wk (Itl K a) xs.length H1 fun i x _ => xs[i]? = some x :=
  ⟨fun i H s hi => ⟨xs, xs[i], s.seq h, by simp [hi]⟩, fun H s => ⟨xs, s.seq h, Nat.le_refl _⟩, fun i H x H' s _ y => by
    obtain ⟨e, y⟩ := y
    subst e
    exact ⟨Same.refl _, y xs (s.seq h)⟩⟩
/-- new lists, one for each turn -/
structure FreshL (H1 H : Hp) (acc : Addr) (ps : List Addr) (n : Nat) (f : Nat → HO) : Prop where
  facc : H1 acc = none
  same : Same H1 H
  out : H acc = some (.lst (ps.map V.ref))
  len : ps.length = n
  nd : ps.Nodup
  nin : acc ∉ ps
  row : ∀ i p, ps[i]? = some p → H1 p = none ∧ H p = some (f i)
theorem FreshL.free {H1 H : Hp} {acc : Addr} {ps : List Addr} {n : Nat} {f : Nat → HO} (F : FreshL H1 H acc ps n f) {p : Addr} (h : p ∈ ps) : H1 p = none := by
  obtain ⟨i, hi⟩ := List.getElem?_of_mem h
  exact (F.row i p hi).1
theorem FreshL.some {H1 H : Hp} {acc : Addr} {ps : List Addr} {n : Nat} {f : Nat → HO} (F : FreshL H1 H acc ps n f) {i : Nat} (hi : i < n) : ∃ p, ps[i]? = .some p ∧ H p = .some (f i) := by
  have hl : i < ps.length := by rw [F.len]; exact hi
  exact ⟨ps[i], List.getElem?_eq_getElem hl, (F.row i _ (List.getElem?_eq_getElem hl)).2⟩
section
variable {K : PySem.W.Frag} {g : TG} {tt : TT} {te : TE} {σ0 : St} {H1 : Hp} {Q : VK} {J : It} {n : Nat} {X : Nat → V → Hp → Prop}
/-- each turn tells a value, or is left out -/
theorem comp_I (w : Wk J n H1 X) (hn : n < sizeLine) (f : Nat → V) (p : Nat → Bool) (Ps : Nat → St → Prop) (h0 : Ps 0 σ0)
    (turn : ∀ i x σ H (R : St → V → Hp → Prop) (S : St → Hp → Prop), i < n → Same H1 H → X i x H → Ps i σ → (p i = true → ∀ σ2 H5, Same H H5 → Ps (i + 1) σ2 → R σ2 (f i) H5) → (p i = false → ∀ σ2 H5, Same H H5 → Ps (i + 1) σ2 → S σ2 H5) →
      g x σ H fun σ2 H3 => tt σ2 H3 fun b H4 => br b (te σ2 H4 fun v H5 => R σ2 v H5) (S σ2 H4))
    (fin : ∀ acc H, H1 acc = none → Same H1 H → H acc = some (.lst (((List.range n).filter p).map f)) → Q (.ref acc) H) : compW J g tt te σ0 H1 Q := by
  unfold compW
  intro acc H2 hf hs ha
  refine ⟨fun i m ys σ H => m = n - i ∧ i ≤ n ∧ ys = ((List.range i).filter p).map f ∧ Same H1 H ∧ H acc = some (.lst ys) ∧ Ps i σ, ⟨n, by simp, Nat.zero_le _, rfl, hs, ha, h0⟩, ?_⟩
  rintro i m ys σ H ⟨rfl, hi, rfl, s, hy, P⟩
  have hlen : (((List.range i).filter p).map f).length ≤ i := by
    rw [List.length_map]
    have := List.length_filter_le p (List.range i)
    rwa [List.length_range] at this
  refine ⟨hy, by omega, ?_⟩
  by_cases hlt : i < n
  · refine .inr ⟨w.go i H s hlt, fun x H' y => ?_⟩
    obtain ⟨s1, x1⟩ := w.yld i H x H' s hlt y
    refine turn i x σ H' (fun σ2 v H5 => cPut _ acc _ i (n - i) σ2 v H5) (fun σ2 H4 => cSkip _ _ i (n - i) σ2 H4) hlt (s.trans s1) x1 P ?_ ?_
    · intro hp σ2 H5 s5 P2
      unfold cPut
      refine ⟨s5 _ _ (s1 _ _ hy), fun H6 c6 h6 => ⟨n - (i + 1), by omega, rfl, hlt, ?_, ((s.trans s1).trans s5).chg hf c6, h6, P2⟩⟩
      rw [List.range_succ, List.filter_append, List.map_append]
      congr 1
      simp [hp]
    · intro hp σ2 H5 s5 P2
      unfold cSkip
      refine ⟨n - (i + 1), by omega, rfl, hlt, ?_, (s.trans s1).trans s5, s5 _ _ (s1 _ _ hy), P2⟩
      rw [List.range_succ, List.filter_append, List.map_append]
      simp [hp]
  · have e : i = n := by omega
    subst e
    exact .inl ⟨w.stop H s, fin acc H hf s hy⟩
theorem filter_T (n : Nat) : (List.range n).filter (fun _ => true) = List.range n := by simp
end
/-! ### several objects may have changed -/
def ChgS (ps : List Addr) (H H' : Hp) : Prop := ∀ b o, b ∉ ps → H b = some o → H' b = some o
theorem ChgS.refl (ps : List Addr) (H : Hp) : ChgS ps H H := fun _ _ _ e => e
theorem ChgS.same {ps : List Addr} {H H1 H2 : Hp} (x : ChgS ps H H1) (y : Same H1 H2) : ChgS ps H H2 := fun b o h e => y b o (x b o h e)
/-! ### == of lists of ints; of lists of these -/
theorem all_true (n : Nat) : (List.range n).all (fun _ => true) = true := by simp
/-- two lists whose things are the same, one by one -/
theorem EqR.allT {K : PySem.W.Frag} {H : Hp} {a b : Addr} {xs ys : List V} {n : Nat} (ha : SqL K H a xs) (hb : SqL K H b ys) (hl : xs.length = ys.length) (h : ∀ (j : Nat) (x y : V), xs[j]? = some x → ys[j]? = some y → EqR K H n x y true) : EqR K H (n + 1) (.ref a) (.ref b) true := by
  have := EqR.lst (fun _ => true) ha hb hl h
  rwa [all_true] at this
end L2

set_option Elab.async false
set_option linter.all false
set_option maxRecDepth 100000
set_option maxHeartbeats 2000000
namespace L2
open PySem PySem.Spec PyProof.Rows
/-! ### range downwards -/
section
variable {X : Cx} {tg : Expr}
end
section
variable {K : PySem.W.Frag} {g : TG} {tb : TS} {D : Ends} {σ : St} {H : Hp} {R : It → Hp → Prop}
end
/-! ### methods of lists without arguments; extend -/
section
variable {X : Cx} {K : PySem.W.Frag}
def qBM0 (K : PySem.W.Frag) (r : Addr → List V → Hp → VK → Prop) (to : TE) : TE := fun σ H Q => to σ H fun x H1 => match x with
  | .ref p => rLstIs K p H1 (r p [] H1 Q)
  | _ => False
theorem peBM0 {o : Expr} {to : TE} {name : Str} {apos cpos : Pos} {id : String} {r : Addr → List V → Hp → VK → Prop} (slot : Slot "list" name id) (hty : typeOf (.builtin id) = pure (.type "method_descriptor")) (hm : MtA X id r) (ho : PE X o to)
    (hbase : attributeBase o name X.env (eval o X.env) = eval o X.env := by rfl) (hline : (apos.endLine == cpos.line) = true := by rfl) :
    PE X (.Call (.Attribute o name apos) [] [] cpos) (qBM0 X.K r to) := by
  intro pins s σ H Q I h
  refine wpAny_Call_method0_late hbase hline (thn (ho pins s σ H _ I h) fun v s1 ⟨x, H1, I1, r1, q1⟩ => ?_)
  dsimp only at q1
  split at q1
  · rename_i p
    unfold rLstIs at q1
    obtain ⟨hq, q1⟩ := q1
    obtain ⟨h1, h2⟩ := tyV_is (T := "list") I1 r1 (.inl ⟨rfl, hq⟩)
    cases r1
    exact ⟨"list", id, PySem.F.plainAttrs_list, slot, hty, h1, h2, Calls.callWith_builtin rfl (PySem.evalArgs_none (hm pins s1 σ H1 p [] [] Q I1 .nil q1))⟩
  · exact q1.elim
/-! ### xs[::-1] -/
/-! ### min of a list of ints -/
theorem ptW {e : Expr} {t : TT} (h : PW X e t) : PT X e t := h.pt
end
end L2

set_option Elab.async false
set_option linter.all false
set_option maxRecDepth 100000
set_option maxHeartbeats 2000000
namespace L2
open PySem PySem.Spec PyProof.Rows
/-! ### an exception in flight, with its own dict: what notes a frame leaves it as it is but for its entry -/
/-- a class that is raised while another exception is handled -/
def chained (o : Obj) : Bool := match o.data with
  | .cls cd => cd.name == "NoText"
  | _ => false
def Chd (B : Heap) (cls : Value) : Prop := ∃ (C : Addr) (o : Obj), cls = .ref C ∧ B.get? C = some o ∧ chained o = true
/-- its record: no entry yet, or an entry that is in no frame's flight -/
noncomputable def ExAt (B h : Heap) (e : Addr) (cls : Value) (dx : Option Addr) : Prop :=
  ∃ (oe : Obj) (vs : Array Value), h.get? e = some oe ∧ oe.cls = cls ∧ oe.dict = dx ∧ oe.data = .fields vs ∧ 1 < vs.size ∧
    (vs[1]? = some .none ∨ ∃ (T : Addr) (oT : Obj) (ts : Array Value), vs[1]? = some (.ref T) ∧ B.get? T = none ∧ T ≠ e ∧ h.get? T = some oT ∧ oT.data = .fields ts ∧ 3 < ts.size ∧ ts[3]? = some .none) ∧ (vs[2]? = some .none ∨ Chd B cls)
/-- nothing is gone -/
def Th (h h' : Heap) : Prop := ∀ b o, h.get? b = some o → ∃ o', h'.get? b = some o'
structure FlyX (B : Heap) (l : List Env) (e : Addr) (cls : Value) (dx : Option Addr) (h : Heap) : Prop where
  stays : B.StaysIn h
  new : B.get? e = none
  frames : h.FunFrames B l
  ex : ExAt B h e cls dx
section
variable {M : Model} {A : Around} {E : Value → Shared → Prop} {s : Shared} {B : Heap} {env : Env} {outer : List Env} {L e : Addr} {cls : Value} {dx : Option Addr} {Q : Unit → Shared → Prop}
theorem mapFields_parts (f : Array Value → Array Value) (o : Obj) : (Obj.mapFields f o).cls = o.cls ∧ (Obj.mapFields f o).dict = o.dict := by
  obtain ⟨c, d, dt, sl⟩ := o
  cases dt <;> exact ⟨rfl, rfl⟩
theorem entry_fly {head : Value} {hn : Bool} {oe : Obj} {vs : Array Value} (hfr : A.frames = some (env :: outer)) (hf : env.frame = some L) (f1 : B.StaysIn s.heap) (f2 : B.get? e = none) (f3 : s.heap.FunFrames B (env :: outer))
    (he : s.heap.get? e = some oe) (hc : oe.cls = cls) (hdx : oe.dict = dx) (hd : oe.data = .fields vs) (hsz : 1 < vs.size) (h2c : vs[2]? = some .none ∨ Chd B cls)
    (hQ : ∀ h', FlyX B (env :: outer) e cls dx h' → s.heap.UpToSlots h' → Th s.heap h' → Q () { s with heap := h' }) :
    wpAny M A (do let a ← frameOf env; let pl ← entryPlaceOf L hn; let b ← EntryCells.newEntry head a .none (rawInt L) .none pl; setField (.ref e) 1 b) (fun _ s1 => wpAny M A (setFlight (.ref e) none) Q E s1) E s := by
  have hene : e ∉ (env :: outer).filterMap (·.frame) := fun hm => by
    obtain ⟨_, o, ho, hnf⟩ := f3.mem hm
    rw [he] at ho
    cases ho
    exact hnf vs hd
  refine wpAny_bind (wpAny_frameOf_fun hfr f3 hf fun g hg => wpAny_bind (wpAny_entryPlaceOf fun pl hpl => ?_))
  refine wpAny_bind (wpAny_newObj_type ?_ (hpl.sizeOk5 _ _ _ _ _))
  have e1 : g.get? e = some oe := (hg.2.1 e hene).trans he
  have lt1 := Heap.lt_size e1
  generalize hO : ({ cls := .type "traceback", data := .fields ([head, .ref L, .none, rawInt L, .none] ++ (if pl.isEmpty then List.replicate 6 Value.none else pl)).toArray } : Obj) = O
  have hOd : O.data = .fields ([head, .ref L, .none, rawInt L, .none] ++ (if pl.isEmpty then List.replicate 6 Value.none else pl)).toArray := by rw [← hO]
  have hOz : 3 < ([head, .ref L, .none, rawInt L, .none] ++ (if pl.isEmpty then List.replicate 6 Value.none else pl)).toArray.size := by simp
  have hOf : O.isFreed = false := by rw [← hO]; rfl
  generalize ([head, .ref L, .none, rawInt L, .none] ++ (if pl.isEmpty then List.replicate 6 Value.none else pl)).toArray = ts at hOd hOz
  have e2 : (g.push O).get? e = some oe := Heap.get?_push_of_some _ e1
  have t2 : (g.push O).get? g.objs.size = some O := Heap.get?_push_size _ hOf
  have nT : g.objs.size ≠ e := Nat.ne_of_gt lt1
  refine wpAny_setField e2 hd hsz ?_
  have d3 := Obj.data_mapFields hd (fun a => a.setIfInBounds 1 (Value.ref g.objs.size))
  have e3 := Heap.get?_update_self (Obj.mapFields fun a => a.setIfInBounds 1 (Value.ref g.objs.size)) e2 (Obj.isFreed_of_fields d3)
  have t3 := (Heap.get?_update_other (g.push O) (Obj.mapFields fun a => a.setIfInBounds 1 (Value.ref g.objs.size)) (Ne.symm nT)).trans t2
  unfold setFlight
  refine wpAny_bind (wpAny_field e3 d3 (x := .ref g.objs.size) (by simp [hsz]) ?_)
  rw [if_pos (by simp)]
  refine wpAny_setField t3 hOd hOz (hQ _ ?_ ?_ ?_)
  · have kp : ∀ b o, b ≠ e → g.get? b = some o → (((g.push O).update e (Obj.mapFields fun a => a.setIfInBounds 1 (Value.ref g.objs.size))).update g.objs.size (Obj.mapFields fun a => a.setIfInBounds 3 Value.none)).get? b = some o := fun b o hb hz => by
      rw [Heap.get?_update_other _ _ (Nat.ne_of_gt (Heap.lt_size hz)), Heap.get?_update_other _ _ (Ne.symm hb)]
      exact Heap.get?_push_of_some _ hz
    have d4 := Obj.data_mapFields hOd (fun a => a.setIfInBounds 3 Value.none)
    have t4 := Heap.get?_update_self (Obj.mapFields fun a => a.setIfInBounds 3 Value.none) t3 (Obj.isFreed_of_fields d4)
    have e4 := (Heap.get?_update_other ((g.push O).update e (Obj.mapFields fun a => a.setIfInBounds 1 (Value.ref g.objs.size))) (Obj.mapFields fun a => a.setIfInBounds 3 Value.none) nT).trans e3
    have pf := mapFields_parts (fun a => a.setIfInBounds 1 (Value.ref g.objs.size)) oe
    refine ⟨fun b o hb => kp b o (fun z => by rw [z, f2] at hb; cases hb) ((hg.2.1 b fun hm => by rw [(f3.mem hm).1] at hb; cases hb).trans (f1 b o hb)), f2, f3.of_keeps fun b o hb hnf => ?_, _, _, e4, pf.1.trans hc, pf.2.trans hdx, d3, by simpa using hsz, .inr ⟨_, _, _, by simp [hsz], ?_, nT, t4, d4, by simpa using hOz, by simp [hOz]⟩, h2c.imp (fun z => by rw [Array.getElem?_setIfInBounds_ne (by decide)]; exact z) id⟩
    · obtain ⟨sl, hs⟩ := hg.2.2 b o hb
      refine ⟨_, kp b _ (fun z => ?_) hs, rfl⟩
      rw [z, he] at hb
      cases hb
      exact hnf vs hd
    · cases q : B.get? g.objs.size with
      | none => rfl
      | some o =>
        have z1 := f1 _ _ q
        have z2 := (hg.2.1 _ fun hm => by rw [(f3.mem hm).1] at q; cases q).trans z1
        exact absurd (Heap.lt_size z2) (Nat.lt_irrefl _)
  · intro b o hb hnf
    obtain ⟨sl, hs⟩ := hg.2.2 b o hb
    refine ⟨sl, ?_⟩
    rw [Heap.get?_update_other _ _ (Nat.ne_of_gt (Heap.lt_size hs)), Heap.get?_update_other _ _ (fun z => ?_)]
    · exact Heap.get?_push_of_some _ hs
    · rw [← z, he] at hb
      cases hb
      exact hnf vs hd
  · intro b o hb
    by_cases hbe : b = e
    · subst hbe
      exact ⟨_, (Heap.get?_update_other _ _ nT).trans e3⟩
    · obtain ⟨sl, hs⟩ := hg.2.2 b o hb
      refine ⟨{ o with slots := sl }, ?_⟩
      rw [Heap.get?_update_other _ _ (Nat.ne_of_gt (Heap.lt_size hs)), Heap.get?_update_other _ _ (Ne.symm hbe)]
      exact Heap.get?_push_of_some _ hs
theorem note_fly (hfr : A.frames = some (env :: outer)) (hf : env.frame = some L) (F : FlyX B (env :: outer) e cls dx s.heap)
    (hQ : ∀ h', FlyX B (env :: outer) e cls dx h' → s.heap.UpToSlots h' → Th s.heap h' → Q () { s with heap := h' }) : wpAny M A (noteFrame (.ref e) env) (fun _ s1 => wpAny M A (setFlight (.ref e) none) Q E s1) E s := by
  obtain ⟨f1, f2, f3, oe, vs, he, hc, hdx, hd, hsz, hT, h2c⟩ := F
  unfold noteFrame
  rw [hf]
  rcases hT with h1 | ⟨T, oT, ts, h1, bT, nT, gT, dT, zT, vT⟩
  · refine wpAny_bind (wpAny_field he hd h1 ?_)
    dsimp only
    rw [if_neg (by simp)]
    exact entry_fly hfr hf f1 f2 f3 he hc hdx hd hsz h2c hQ
  · refine wpAny_bind (wpAny_field he hd h1 ?_)
    dsimp only
    rw [if_pos (by simp)]
    refine wpAny_bind (wpAny_field gT dT vT ?_)
    rw [if_neg (by simp [rawInt])]
    refine wpAny_bind (wpAny_setField gT dT zT ?_)
    have ne : ∀ b o, s.heap.get? b = some o → (∀ vs, o.data ≠ .fields vs) → b ≠ T := fun b o hb hnf z => by
      rw [z, gT] at hb
      cases hb
      exact hnf ts dT
    have kp : ∀ b o, b ≠ T → s.heap.get? b = some o → (s.heap.update T (Obj.mapFields fun a => a.setIfInBounds 3 Value.none)).get? b = some o := fun b o hb hz => by
      rw [Heap.get?_update_other _ _ (Ne.symm hb)]; exact hz
    refine entry_fly (s := { s with heap := s.heap.update T (Obj.mapFields fun a => a.setIfInBounds 3 Value.none) }) hfr hf (fun b o hb => kp b o (fun z => by rw [z, bT] at hb; cases hb) (f1 b o hb)) f2 (f3.of_keeps fun b o hb hnf => ⟨o, kp b o (ne b o hb hnf) hb, rfl⟩)
      (kp e oe (Ne.symm nT) he) hc hdx hd hsz h2c fun h' F' U W => hQ h' F' (fun b o hb hnf => U b o (kp b o (ne b o hb hnf) hb) hnf) fun b o hb => ?_
    by_cases hbT : b = T
    · subst hbT
      exact W b _ (Heap.get?_update_self (Obj.mapFields fun a => a.setIfInBounds 3 Value.none) gT (Obj.isFreed_of_fields (Obj.data_mapFields dT _)))
    · exact W b o (kp b o hbT hb)
theorem set_fly (F : FlyX B outer e cls dx s.heap) (hQ : ∀ h', FlyX B outer e cls dx h' → s.heap.UpToSlots h' → Th s.heap h' → Q () { s with heap := h' }) : wpAny M A (setFlight (.ref e) none) Q E s := by
  obtain ⟨f1, f2, f3, oe, vs, he, hc, hdx, hd, hsz, hT, h2c⟩ := F
  unfold setFlight
  rcases hT with h1 | ⟨T, oT, ts, h1, bT, nT, gT, dT, zT, vT⟩
  · refine wpAny_bind (wpAny_field he hd h1 ?_)
    rw [if_neg (by simp)]
    exact wpAny_pure (hQ s.heap ⟨f1, f2, f3, oe, vs, he, hc, hdx, hd, hsz, .inl h1, h2c⟩ (Heap.UpToSlots.refl _) fun b o hb => ⟨o, hb⟩)
  · refine wpAny_bind (wpAny_field he hd h1 ?_)
    rw [if_pos (by simp)]
    refine wpAny_setField gT dT zT ?_
    have kp : ∀ b o, b ≠ T → s.heap.get? b = some o → (s.heap.update T (Obj.mapFields fun a => a.setIfInBounds 3 Value.none)).get? b = some o := fun b o hb hz => by
      rw [Heap.get?_update_other _ _ (Ne.symm hb)]; exact hz
    have ne : ∀ b o, s.heap.get? b = some o → (∀ vs, o.data ≠ .fields vs) → b ≠ T := fun b o hb hnf z => by
      rw [z, gT] at hb
      cases hb
      exact hnf ts dT
    have d4 := Obj.data_mapFields dT (fun a => a.setIfInBounds 3 Value.none)
    have t4 := Heap.get?_update_self (Obj.mapFields fun a => a.setIfInBounds 3 Value.none) gT (Obj.isFreed_of_fields d4)
    exact hQ _ ⟨fun b o hb => kp b o (fun z => by rw [z, bT] at hb; cases hb) (f1 b o hb), f2, f3.of_keeps fun b o hb hnf => ⟨o, kp b o (ne b o hb hnf) hb, rfl⟩, oe, vs, kp e oe (Ne.symm nT) he, hc, hdx, hd, hsz,
      .inr ⟨T, _, _, h1, bT, nT, t4, d4, by simpa using zT, by simp [zT]⟩, h2c⟩ (fun b o hb hnf => ⟨o.slots, kp b o (ne b o hb hnf) hb⟩) fun b o hb => (Classical.em (b = T)).elim (fun z => by subst z; exact ⟨_, t4⟩) fun z => ⟨o, kp b o z hb⟩
/-- leaving a frame -/
theorem leave_fly (hfr : A.frames = some (env :: outer)) (hf : env.frame = some L) (F : FlyX B (env :: outer) e cls dx s.heap)
    (hQ : ∀ h', FlyX B outer e cls dx h' → s.heap.UpToSlots h' → Th s.heap h' → Q () { s with heap := h' }) : wpAny M A (leaving env (.ref e)) Q E s := by
  unfold leaving
  exact wpAny_bind (note_fly hfr hf F fun h' F' U W => hQ h' ⟨F'.stays, F'.new, F'.frames.2.2, F'.ex⟩ U W)
end
/-! ### how an exception lies behind a call -/
/-- an exception flies in the body of X: the state as X has it, B all that stood when it was raised but the frames -/
structure FlyIn (X : Cx) (pins : List (Addr × Obj)) (σ : St) (H : Hp) (B : Heap) (e : Addr) (cls : Value) (dx : Option Addr) (s : Shared) : Prop where
  inv : Inv X pins σ H s
  hok : HOk X.prog X.w H B
  fly : FlyX B X.stack e cls dx s.heap
  kb : ∀ b o, X.s₀.heap.get? b = some o → X.H₀ b = none → b ∉ X.fs → b ∉ X.ex → B.get? b = some o
  en : ∀ o, X.s₀.heap.get? e = some o → e ∈ X.ex
noncomputable def CXR (P : Program) (w : World) : CXT := fun outer H s E e s' => ∃ (ea : Addr) (cls : Value) (dx : Option Addr) (H' : Hp) (B : Heap), e = .ref ea ∧ s'.os = s.os ∧ AllBare s'.gens ∧ HOk P w H' B ∧ FlyX B outer ea cls dx s'.heap ∧
  Un (frs outer) [] H H' s.heap s'.heap ∧ (∀ b o, s.heap.get? b = some o → H b = none → b ∉ frs outer → B.get? b = some o) ∧ (∀ o, s.heap.get? ea ≠ some o) ∧ E cls dx H'
section
variable {X : Cx} {pins : List (Addr × Obj)} {σ : St} {H : Hp} {s s' : Shared}
theorem not_frame (I : Inv X pins σ H s) {b : Addr} {o : Obj} (e : X.s₀.heap.get? b = some o) (h : b ∉ X.fs) : b ∉ frs X.stack := fun hm => by
  rcases List.mem_cons.mp (I.stkSub b hm) with z | z
  · exact absurd (Nat.lt_of_lt_of_le (Heap.lt_size e) I.ok.above) (by rw [z]; exact Nat.lt_irrefl _)
  · exact h z
/-- out of a callee -/
theorem FlyIn.of_call {E : XK} {e : Value} (I : Inv X pins σ H s) (h : CXR X.prog X.w X.stack H s E e s') : ∃ (ea : Addr) (cls : Value) (dx : Option Addr) (H' : Hp) (B : Heap), e = .ref ea ∧ FlyIn X pins σ H' B ea cls dx s' ∧ E cls dx H' := by
  obtain ⟨ea, cls, dx, H', B, rfl, os, bare, hok, fly, un, kb, en, hE⟩ := h
  refine ⟨ea, cls, dx, H', B, rfl, ⟨I.call' os un (hok.kept fly.stays) bare (fun b hb => absurd hb (by simp)), hok, fly, fun b o e n h1 h2 => ?_, fun o e => ?_⟩, hE⟩
  · have k := I.base.keep b o e n h1 h2
    exact kb b o k (I.base.free b o e n h2) (not_frame I e h1)
  · apply Classical.byContradiction
    intro hx
    obtain ⟨o', k⟩ := I.base.there ea o e hx
    exact en o' k
/-- what is wanted of an exception that leaves this body -/
def XOut (X : Cx) (E : XK) : Prop := ∀ (pins : List (Addr × Obj)) (σ : St) (H : Hp) (B : Heap) (e : Addr) (cls : Value) (dx : Option Addr) (s : Shared), FlyIn X pins σ H B e cls dx s → E cls dx H → X.xe (.ref e) s
theorem passR {E : XK} (hx : XOut X E) : Passes (CXR X.prog X.w) X E := fun pins σ H s e s' I h => by
  obtain ⟨ea, cls, dx, H', B, rfl, F, hE⟩ := FlyIn.of_call I h
  exact hx _ _ _ _ _ _ _ _ F hE
end
/-- a def's body: the exception leaves its frame -/
theorem xout {P : Program} {w : World} {K : PySem.W.Frag} {mg : Str → Option Value} {base : Heap} {N : List Str} {qual : Str} {scope : Scope} {f : Addr} {cd : Value} {A : Around} {outer : List Env} {s : Shared} {H : Hp} {E : XK} :
    XOut (cxOf (CXR P w) P w K mg base N qual scope f cd A outer s H E) E := fun pins σ H' B e cls dx s' F hE => by
  have I := F.inv
  refine leave_fly (outer := outer) I.ok.frames (rfl : (envOfC qual scope s.heap.objs.size f cd).frame = some s.heap.objs.size) F.fly fun h' F' U W => ?_
  have kb : ∀ b o, s.heap.get? b = some o → H b = none → b ∉ frs outer → B.get? b = some o := fun b o e n h1 => F.kb b o e n h1 (by exact List.not_mem_nil)
  refine ⟨e, cls, dx, H', B, rfl, I.os, I.bare, F.hok, F', ?_, kb, fun o z => absurd (F.en o z) (by exact List.not_mem_nil), hE⟩
  have un : Un (frs outer) [] H H' s.heap s'.heap := I.base
  refine ⟨fun b o e n h1 _ => F'.stays _ _ (kb b o e n h1), fun b o e n h1 h2 => ?_, un.free, fun b o e h2 => ?_, un.tups, un.frzs, un.tbls⟩
  · obtain ⟨sl, k⟩ := un.slot b o e n h1 h2
    obtain ⟨_, o2, ho2, hd⟩ := I.ok.funs.mem h1
    have : o2 = o := Option.some.inj (ho2.symm.trans e)
    subst this
    obtain ⟨sl', k'⟩ := U b _ k hd
    exact ⟨sl', k'⟩
  · obtain ⟨o', k⟩ := un.there b o e h2
    exact W b o' k
/-! ### raise C(..), C a class without __init__ -/
section
variable {X : Cx} {x : Str} {C : Addr} {bm : List Value} {B newId initId : String} {np cpos pos : Pos} {e₀ : Expr} {rest : List Expr} {t : TA} {E : XK}
end
/-! ### a def that may raise -/
section
variable {P : Program} {w : World} {K : PySem.W.Frag} {mg : Str → Option Value} {base : Heap}
theorem Fun.okR {x qual : Str} {st : Stmt} {f : Addr} {fd : FuncData} {N ps : List Str} {k : Nat} {sp : Sp} (F : Fun K x qual st f fd) (S : FnScope N ps (defScope st)) (len : ∀ vs H Q E, sp vs H Q E → vs.length = ps.length)
    (hbody : ∀ (cdv : Value) (A : Around) (outer : List Env) (s : Shared) (H : Hp) (vs : List V) (Q : VK) (E : XK), Room k (A.deeper (envOfC qual (defScope st) s.heap.objs.size f cdv)) → XOut (cxOf (CXR P w) P w K mg base N qual (defScope st) f cdv A outer s H E) E → sp vs H Q E →
      ∃ t, PSs (cxOf (CXR P w) P w K mg base N qual (defScope st) f cdv A outer s H E) (defBody st) t ∧ t { nx := fun _ H' => Q .non H', rt := Q } (start N vs) H) : FnOk P w K mg base (CXR P w) (k + 1) f fd ps sp := by
  obtain ⟨oc, od, kV, doc, pm, an, cdv, ct, osl, rfl, lk, hcd⟩ := F.ex
  refine fn_of lk hcd S len fun A outer s H vs Q E hr hsp => ?_
  exact hbody cdv A outer s H vs Q E hr xout hsp
end
end L2

set_option Elab.async false
set_option linter.all false
set_option maxRecDepth 100000
set_option maxHeartbeats 4000000
namespace L2
open PySem PySem.Spec PyProof.Rows
/-! ### isinstance of a caught exception -/
/-- what the written part knows of an exception's class -/
structure ExcK (K : PySem.W.Frag) (D : Addr) : Prop where
  h1 : PySem.W.findIn K (.ref D) "__getattribute__" = some (some (.builtin "BaseException.__getattribute__"))
  h2 : PySem.W.findIn K (.ref D) "__getattr__" = some none
  h3 : PySem.W.findIn K (.ref D) "__class__" = some (some (.builtin "object.__class__"))
  h4 : PySem.W.subIn K (.ref D) (.type "BaseException") = some true
  h5 : PySem.W.mroIn K D (.type "object") = some true
/-- a caught exception -/
def ExcIs (e : Addr) (cls : Value) (dx : Option Addr) (h : Heap) : Prop := ∃ (oe : Obj) (vs : Array Value), h.get? e = some oe ∧ oe.cls = cls ∧ oe.dict = dx ∧ oe.data = .fields vs
section
open PySem.W PySem.Calls
theorem exc_class {prog : Program} {w : World} {A : Around} {E : Value → Shared → Prop} {K : Frag} {D e : Addr} {h : Heap} {g d t os} {Q : Option Value → Shared → Prop} (X : K.In h) (x : ExcIs e (.ref D) none h) (k : ExcK K D)
    (hq : Q (some (.ref D)) ⟨h, g, d, t + 1, os⟩) : wpAny (model prog w) A (getAttr? (.ref e) "__class__") Q E ⟨h, g, d, t, os⟩ := by
  obtain ⟨oe, vs, he, hc, hdx, hd⟩ := x
  obtain ⟨h1, h2, h3, h4, h5⟩ := k
  have L0 : Looks (model prog w) h (typeOf (.ref e)) (.ref D) := hc ▸ (Looks.ld he).andThen .now
  have L1 := looks_findIn (M := model prog w) X h1
  have L2 := looks_findIn (M := model prog w) X h2
  have L3 := looks_findIn (M := model prog w) X h3
  have hx : (onTheHeap (Value.ref D) && Value.builtin "BaseException.__getattribute__" == Value.builtin "object.__getattribute__") = false := by
    have z : (Value.builtin "BaseException.__getattribute__" == Value.builtin "object.__getattribute__") = false := by decide +kernel
    rw [z]; rfl
  have I : InstAt h e oe D none := ⟨he, hc, by unfold notCls; rw [hd], by rw [hdx]; trivial⟩
  have L4 : Looks (model prog w) h (isInstance (.ref e) (.type "BaseException")) true := L0.andThen (looks_subIn X h4)
  have FB := PySem.F.attrBase_ValueError
  have f3 := FB.ga.bind (.ref e)
  have kd : builtinKind "BaseException.__getattribute__" = some .slot := by decide +kernel
  have sid : splitId "BaseException.__getattribute__" = some ("BaseException", "__getattribute__") := by decide +kernel
  have aok := PySem.F.args_bexc_ga (.ref e) (.str "__class__" t)
  have f5 := KF.type_class
  have f6 := PySem.F.slot_gs_get.lookup
  have f7 := PySem.F.slot_gs_set.lookup
  unfold getAttr? getAttrBy? getAttrBy
  refine wpAny_bind (wpAny_mkText (wpAny_bind (wpAny_attempt (wpAny_holding (wpAny_bind (L0.at (wpAny_bind (L1.at ?_))))))))
  dsimp only
  rw [if_neg (by rw [hx]; decide)]
  unfold getAttrByItsOwn hookBefore
  repeat (any_goals (first | assumption | with_reducible refine L0.at ?_ | with_reducible refine L1.at ?_ | with_reducible refine L2.at ?_ | with_reducible refine L3.at ?_ | wp_step))
  refine codeAny_call_builtin FB.ga.plain PySem.F.entry_bexc_ga ?_
  simp only [checkBuiltinCall, kd, sid]
  refine wpAny_bind (L4.at ?_)
  repeat (any_goals (first | assumption | with_reducible refine L0.at ?_ | with_reducible refine L1.at ?_ | with_reducible refine L2.at ?_ | with_reducible refine L3.at ?_ | wp_step))
  refine class_get (ox := oe) (od := none) X I h5 ?_
  repeat (any_goals (first | assumption | wp_step))
theorem kitx_exc {K : Frag} {e D : Addr} (k : ExcK K D) (hcl : (clsIn K D).isSome = true) : KitX K (.ref e) (.ref D) (ExcIs e (.ref D) none) where
  ty := fun M h _ p => by
    obtain ⟨oe, vs, he, hc, _⟩ := p
    exact hc ▸ (Looks.ld he).andThen .now
  it := fun M h X p => by
    obtain ⟨cd, hcd⟩ := Option.isSome_iff_exists.mp hcl
    unfold clsIn at hcd
    split at hcd
    · rename_i ho
      intro A' Q' E' s' kk q
      unfold isType loadHead
      exact wpAny_bind (wpAny_loadPart (kk _ _ (X _ _ ho)) (wpAny_pure q))
    · cases hcd
  ne := fun h tp dd its n sl X htp => by
    refine Bool.eq_false_iff.mpr fun q => ?_
    have z : D = tp := Value.ref.inj (beq_iff_eq.mp q)
    subst z
    obtain ⟨cd, hcd⟩ := Option.isSome_iff_exists.mp hcl
    unfold clsIn at hcd
    split at hcd
    · rename_i ho
      cases (X _ _ ho).symm.trans htp
    · cases hcd
  ca := fun {prog w A E Q s} X p q => by
    obtain ⟨hh, g, d, t, os⟩ := s
    exact exc_class X p k q
end
/-! ### isinstance, of anything and of a caught exception -/
abbrev excO (ea : Addr) (cls : Value) (dx : Option Addr) : HO := .ext (ExcIs ea cls dx)
section
variable {X : Cx} {K : PySem.W.Frag} {H : Hp} {Q : VK}
@[irreducible] def rIsiX (K : PySem.W.Frag) (x c : V) (H : Hp) (Q : VK) : Prop := rIsiA K x c H Q ∨ ∃ (ea D : Addr) (b : Bool), x = .ref ea ∧ H ea = some (excO ea (.ref D) none) ∧ ExcK K D ∧ (PySem.W.clsIn K D).isSome = true ∧ (∀ cv, RelV c cv → PySem.W.kitOne K (.ref D) cv = some b) ∧ Q (.bl b) H
def rIsiMX (K : PySem.W.Frag) : List V → Hp → VK → Prop := fun xs H Q => match xs with
  | [x, c] => rIsiX K x c H Q
  | _ => False
theorem cIsiX (hK : X.K = K) : CallR X (.builtin "isinstance") (rIsiMX K) := by
  subst hK
  intro pins s σ H xs us Q I r h
  unfold rIsiMX at h
  split at h
  · unfold rIsiX at h
    rcases h with h | ⟨ea, D, b, rfl, h1, h2, h3, h4, h5⟩
    · exact cIsi pins s σ H _ us Q I r h
    · obtain ⟨u, w, rfl, r1, r2⟩ := vals2 r
      cases r1
      obtain ⟨p, _⟩ := I.hok ea _ h1
      exact PySem.W.kia_one (kitx_exc h2 h3) I.kIn p (h4 _ r2) (fun z => nomatch z) fun tk => ⟨.bl b, H, I.tok _, rfl, h5⟩
  · exact h.elim
theorem isiE_rd {ea D C : Addr} {b : Bool} (h1 : H ea = some (excO ea (.ref D) none)) (h2 : ExcK K D) (h3 : (PySem.W.clsIn K D).isSome = true) (e : PySem.W.kitOne K (.ref D) (.ref C) = some b) (q : Q (.bl b) H) : rIsiX K (.ref ea) (.ref C) H Q := by
  unfold rIsiX; exact .inr ⟨ea, D, b, rfl, h1, h2, h3, fun cv r => by cases r; exact e, q⟩
theorem isiET_rd {ea D : Addr} {n : String} {b : Bool} (h1 : H ea = some (excO ea (.ref D) none)) (h2 : ExcK K D) (h3 : (PySem.W.clsIn K D).isSome = true) (e : PySem.W.kitOne K (.ref D) (.type n) = some b) (q : Q (.bl b) H) : rIsiX K (.ref ea) (.ty n) H Q := by
  unfold rIsiX; exact .inr ⟨ea, D, b, rfl, h1, h2, h3, fun cv r => by cases r; exact e, q⟩
theorem bt_ValueError : bootBuiltins "ValueError" = some (.type "ValueError") := by decide +kernel
end
/-! ### try: f(..) except C as n: y = n -/
section
variable {X : Cx} {pins : List (Addr × Obj)} {σ : St} {H : Hp} {s : Shared}
/-- what lies behind an exception of a statement that has stored nothing ahead of it -/
def ExcP (X : Cx) (pins : List (Addr × Obj)) (σ : St) (EX : XK) (e : Value) (s' : Shared) : Prop := ∃ (H' : Hp) (B : Heap) (ea : Addr) (cls : Value) (dx : Option Addr), e = .ref ea ∧ FlyIn X pins σ H' B ea cls dx s' ∧ (∀ p ∈ X.pn ++ pins, B.get? p.1 = some p.2) ∧ EX cls dx H'
def PSX (X : Cx) (st : Stmt) (t : XK → TS) : Prop := ∀ (pins : List (Addr × Obj)) (s : Shared) (σ : St) (H : Hp) (D : Ends) (EX : XK), Inv X pins σ H s → t EX D σ H → wpAny (model X.prog X.w) X.A (exec st X.env) (SP X pins D) (ExcP X pins σ EX) s
def PSXs (X : Cx) (l : List Stmt) (t : XK → TS) : Prop := ∀ (pins : List (Addr × Obj)) (s : Shared) (σ : St) (H : Hp) (D : Ends) (EX : XK), Inv X pins σ H s → t EX D σ H → wpAny (model X.prog X.w) X.A (execs l X.env) (SP X pins D) (ExcP X pins σ EX) s
theorem excP_of {EX : XK} {e : Value} {s' : Shared} (I : Inv X pins σ H s) (h : CXR X.prog X.w X.stack H s EX e s') : ExcP X pins σ EX e s' := by
  obtain ⟨ea, cls, dx, H', B, rfl, os, bare, hok, fly, un, k, en, hE⟩ := h
  refine ⟨H', B, ea, cls, dx, rfl, ⟨I.call' os un (hok.kept fly.stays) bare (fun b hb => absurd hb (by simp)), hok, fly, fun b o e n h1 h2 => ?_, fun o e => ?_⟩, fun p hp => ?_, hE⟩
  · exact k b o (I.base.keep b o e n h1 h2) (I.base.free b o e n h2) (not_frame I e h1)
  · apply Classical.byContradiction
    intro hx
    obtain ⟨o', k'⟩ := I.base.there ea o e hx
    exact en o' k'
  · obtain ⟨q1, q2, q3, q4, _⟩ := I.pin p hp
    exact k _ _ q1 q2 fun hm => (List.mem_cons.mp (I.stkSub _ hm)).elim q3 q4
/-- the state moves on while the exception flies -/
theorem FlyIn.move {B : Heap} {e : Addr} {cls : Value} {dx : Option Addr} {h' : Heap} (F : FlyIn X pins σ H B e cls dx s) (hp : ∀ p ∈ X.pn ++ pins, B.get? p.1 = some p.2) (F' : FlyX B X.stack e cls dx h') (U : s.heap.UpToSlots h') (W : Th s.heap h') :
    FlyIn X pins σ H B e cls dx { s with heap := h' } := by
  have I := F.inv
  have cell : ∀ {c : Addr} {v : Option Value}, s.heap.IsCell c v → h'.IsCell c v := fun ⟨o, ho, hd⟩ => by
    obtain ⟨sl, z⟩ := U _ o ho fun vs q => by rw [hd] at q; cases q
    exact ⟨_, z, hd⟩
  refine ⟨⟨I.ok, I.os, I.bare, ⟨fun b o e n h1 h2 => F'.stays _ _ (F.kb b o e n h1 h2), fun b o e n h1 h2 => ?_, I.base.free, fun b o e h2 => ?_, I.base.tups, I.base.frzs, I.base.tbls⟩, ?_, fun x c hc => ?_, I.free, I.freeC, fun p hpp => ?_, F.hok.kept F'.stays, I.len⟩, F.hok, F', F.kb, F.en⟩
  · obtain ⟨sl, k⟩ := I.base.slot b o e n h1 h2
    obtain ⟨_, o2, ho2, hd⟩ := I.ok.funs.mem h1
    have : o2 = o := Option.some.inj (ho2.symm.trans e)
    subst this
    obtain ⟨sl', k'⟩ := U b _ k hd
    exact ⟨sl', k'⟩
  · obtain ⟨o', k⟩ := I.base.there b o e h2
    exact W b o' k
  · obtain ⟨m, hn, hl⟩ := I.loc
    refine ⟨m, U.ns hn, fun i x v h1 h2 h3 => ?_⟩
    obtain ⟨u, r, q⟩ := hl i x v h1 h2 h3
    refine ⟨u, r, ?_⟩
    rcases q with q | ⟨k, c, e, z⟩
    · exact .inl q
    · exact .inr ⟨k, c, e, cell z⟩
  · obtain ⟨v, z⟩ := I.cell x c hc
    exact ⟨v, cell z⟩
  · obtain ⟨_, q2, q3, q4, q5⟩ := I.pin p hpp
    exact ⟨F'.stays _ _ (hp p hpp), q2, q3, q4, q5⟩
/-- a call by itself, its exception kept -/
theorem callX {k j : Nat} {x : Str} {ps : List Str} {sp : Sp} {p pos : Pos} {e : Expr} {es : List Expr} {t : TA} (F : Def X.prog X.w X.K X.mg X.base (CXR X.prog X.w) k x ps sp) (hr : Room j X.A) (ha : PA X.nox (e :: es) t) (hk : k ≤ j := by decide) (hg : Gl X x := by rfl)
    (hdb : (x == ("__debug__" : Str)) = false := by decide) (he : starEach (e :: es) X.env = (false, eval e X.env) :: starEach es X.env := by rfl) (hpl : (backTo pos (starEach es X.env)).any (·.1) = false := by rfl)
    {Q : VK} {EX : XK} (I : Inv X pins σ H s) (h : t σ H fun vs H1 => sp vs H1 Q EX) : wpAny (model X.prog X.w) X.A (eval (.Call (.Name x p) (e :: es) [] pos) X.env) (EP X pins σ Q) (ExcP X pins σ EX) s := by
  obtain ⟨f, fd, F1, F2, F3, F4⟩ := F.ex
  refine wpAny_Call_Name_kw (ld_glob I hg F2 ?_ hdb)
  have hA := ha pos pins s σ H _ (I.wish _) h
  refine PySem.W.callWith_K (h₀ := X.base) I.ok.mod.kin F3 (wpAny_mono hA (fun us s1 h1 => ?_) fun _ _ z => z.elim) he hpl
  obtain ⟨vs, H1, I1, r, q⟩ := h1
  have I1 : Inv X pins σ H1 s1 := I1.unwish
  refine ⟨I1.kIn, ?_⟩
  have hl : us.length = ps.length := by rw [← r.length]; exact F1.len _ _ _ _ q
  have hb := F4 s1 us I1.kIn (by rw [List.append_nil]; exact hl)
  rw [List.append_nil] at hb
  refine wpAny_call (codeAny_mono (F1.run X.A X.stack s1 H1 ⟨us, []⟩ us vs Q EX (hr.mono hk) I1.env0 hb r q) fun r s' hq => ?_)
  cases r with
  | error e => exact excP_of I1 hq
  | ok fl =>
    cases fl with
    | ret u => exact I1.after hq
    | next => exact False.elim hq
    | brk => exact False.elim hq
    | cont => exact False.elim hq
def qxSet (i : Nat) (sp : Sp) (t : TA) : XK → TS := fun EX D σ H => t σ H fun vs H1 => sp vs H1 (fun v H2 => D.nx (σ.set i (some v)) H2) EX
theorem psxSet {i k j : Nat} {y : Str} {x : Str} {ps : List Str} {sp : Sp} {p pos py spos : Pos} {e : Expr} {es : List Expr} {t : TA} (hN : X.N.Nodup) (F : Def X.prog X.w X.K X.mg X.base (CXR X.prog X.w) k x ps sp) (hr : Room j X.A) (ha : PA X.nox (e :: es) t) (hi : X.N[i]? = some y := by rfl) (hy : Loc X.env.scope y := by first | exact Or.inl rfl | exact Or.inr rfl) (hk : k ≤ j := by decide) (hg : Gl X x := by rfl)
    (hdb : (x == ("__debug__" : Str)) = false := by decide) (he : starEach (e :: es) X.env = (false, eval e X.env) :: starEach es X.env := by rfl) (hpl : (backTo pos (starEach es X.env)).any (·.1) = false := by rfl)
    (hs : swapsWith (.Call (.Name x p) (e :: es) [] pos) (some (.Name y py)) spos.line X.env = pure false := by rfl) (hf : X.fn y = true ∨ X.env.scope.names.lookup y = some .local := by first | exact .inl rfl | exact .inr rfl) : PSX X (.Assign [.Name y py] (.Call (.Name x p) (e :: es) [] pos) spos) (qxSet i sp t) := by
  intro pins s σ H D EX I h
  refine wpAny_Assign_Name (wpAny_mono (callX F hr ha hk hg hdb he hpl I h) (fun v s1 ⟨z, H1, I1, r1, q1⟩ => ?_) fun _ _ z => z) hs
  exact store_ok I1 hN hi hy r1 (fun s2 I2 => ⟨_, H1, I2, q1⟩) hf
theorem psxOne {st : Stmt} {t : XK → TS} (h : PSX X st t) : PSXs X [st] t := by
  intro pins s σ H D EX I hq
  refine wpAny_execs_cons (wpAny_mono (h pins s σ H D EX I hq) (fun f s1 q => ?_) fun _ _ z => z)
  cases f with
  | next => exact wpAny_execs_nil q
  | brk => exact q
  | cont => exact q
  | ret u => exact q
/-! the exception is caught: it is tracked from here on -/
theorem ObjOk.ex {P : Program} {w : World} {H : Hp} {h : Heap} {a : Addr} {o : HO} (x : ObjOk P w H h a o) : ∃ u, h.get? a = some u := by
  cases o with
  | lst xs => obtain ⟨_, _, _, _, e⟩ := x; exact ⟨_, e⟩
  | tup xs => obtain ⟨_, _, _, ob, e, _⟩ := x; exact ⟨ob, e⟩
  | dK kvs => obtain ⟨_, _, _, _, ob, _, _, e, _⟩ := x; exact ⟨ob, e⟩
  | dT kvs => obtain ⟨_, _, _, _, ob, _, _, e, _⟩ := x; exact ⟨ob, e⟩
  | set S n => obtain ⟨ob, _, _, _, e, _⟩ := x; exact ⟨ob, e⟩
  | ins C dx fs => obtain ⟨_, _, _, e, _⟩ := x; exact ⟨_, e⟩
  | own y => exact x
  | xd fs => obtain ⟨_, ⟨ob, _, _, e, _⟩, _⟩ := x; exact ⟨ob, e⟩
  | rng lo hi => obtain ⟨_, _, _, e⟩ := x; exact ⟨_, e⟩
  | frz ob u => obtain ⟨e, _⟩ := x; exact ⟨_, e⟩
  | tbl ps => exact ⟨_, (show h.get? a = some _ from x)⟩
  | met f y => exact ⟨_, (show h.get? a = some _ from x)⟩
  | ext φ => obtain ⟨_, e, _⟩ := x; exact e
theorem FlyIn.track {B : Heap} {ea : Addr} {cls : Value} {dx : Option Addr} (F : FlyIn X pins σ H B ea cls dx s) (hp : ∀ p ∈ X.pn ++ pins, B.get? p.1 = some p.2) (hex : X.ex = []) :
    H ea = none ∧ Inv X pins σ (upd H ea (excO ea cls dx)) s := by
  have I := F.inv
  obtain ⟨oe, vs, he, hc, hdx, hd, _⟩ := F.fly.ex
  have hn : H ea = none := by
    cases q : H ea with
    | none => rfl
    | some o =>
      obtain ⟨u, z⟩ := ObjOk.ex (F.hok ea o q)
      rw [F.fly.new] at z
      cases z
  have nl : ∀ {b : Addr} {o : Obj}, s.heap.get? b = some o → (∀ vs, o.data ≠ .fields vs) → b ≠ ea := fun hb hnf z => by
    rw [z, he] at hb
    cases hb
    exact hnf vs hd
  have n0 : ∀ {b : Addr} {o : Obj}, X.s₀.heap.get? b = some o → b ≠ ea := fun hb z => by
    have := F.en _ (z ▸ hb)
    rw [hex] at this
    cases this
  refine ⟨hn, I.ok, I.os, I.bare, ⟨I.base.keep, I.base.slot, fun b o e n h1 => ?_, I.base.there, fun b xs q => ?_, fun b o u q => ?_, fun b ps q => ?_⟩, I.loc, I.cell, ?_, fun x c hcl => ?_, fun p hpp => ?_, fun b o q => ?_, I.len⟩
  · rw [upd_ne (n0 e)]; exact I.base.free b o e n h1
  · have z := I.base.tups b xs q
    rw [upd_ne (ne_of_none z hn)]; exact z
  · have z := I.base.frzs b o u q
    rw [upd_ne (ne_of_none z hn)]; exact z
  · obtain ⟨more, z⟩ := I.base.tbls b ps q
    exact ⟨more, by rw [upd_ne (ne_of_none z hn)]; exact z⟩
  · obtain ⟨m, ⟨o, es, ep, ho, hdd, _⟩, _⟩ := I.loc
    rw [upd_ne (nl ho fun vs q => by rw [hdd] at q; cases q)]; exact I.free
  · obtain ⟨v, o, ho, hdd⟩ := I.cell x c hcl
    rw [upd_ne (nl ho fun vs q => by rw [hdd] at q; cases q)]; exact I.freeC x c hcl
  · obtain ⟨q1, q2, q3, q4, q5⟩ := I.pin p hpp
    refine ⟨q1, ?_, q3, q4, q5⟩
    rw [upd_ne fun z => ?_]
    · exact q2
    · have := hp p hpp
      rw [z, F.fly.new] at this
      cases this
  · by_cases hb : b = ea
    · subst hb
      rw [upd_same] at q
      cases q
      refine ⟨⟨oe, vs, he, hc, hdx, hd⟩, ⟨oe, he⟩, fun h1 h2 x k => ?_⟩
      obtain ⟨o1, v1, e1, r⟩ := x
      exact ⟨o1, v1, k _ e1, r⟩
    · rw [upd_ne hb] at q
      refine (I.hok b o q).stay (fun _ _ _ z => z) (fun c z => ?_) fun c xs z => ?_
      · rw [upd_ne (ne_of_none z hn)]; exact z
      · rw [upd_ne (ne_of_none z hn)]; exact z
/-- a name is unbound -/
theorem unbind_ok {M : Model} {A : Around} {E : Value → Shared → Prop} {i : Nat} {n : Str} {v : V} {Q : Unit → Shared → Prop} (I : Inv X pins σ H s) (hN : X.N.Nodup) (hi : X.N[i]? = some n) (hl : X.env.kindOf n = some .local) (hv : σ[i]? = some (some v))
    (h : ∀ s', Inv X pins (σ.set i none) H s' → Q () s') : wpAny M A (unbindName X.env n) Q E s := by
  obtain ⟨m, hn, hlk⟩ := id I.loc
  have hcls : (X.env.scope.kind == .class || (X.env.scope.kind == .module && X.env.locals != X.env.globals)) = false := by rw [I.ok.kind]; rfl
  obtain ⟨u, _, q⟩ := hlk i n v hi hv (.inl hl)
  have hm : m n = some u := by
    rcases q with q | ⟨k, _⟩
    · exact q.2
    · rw [hl] at k
      rcases k with k | k <;> cases k
  refine wpAny_unbindName_local hl hn hm hcls fun h' u' hn' hs => h _ ?_
  obtain ⟨oL, _, _, hoL, _⟩ := id hn
  have below : ∀ {b : Addr} {o : Obj}, X.s₀.heap.get? b = some o → b ≠ X.env.locals := fun e => Nat.ne_of_lt (Nat.lt_of_lt_of_le (Heap.lt_size e) I.ok.above)
  refine ⟨I.ok, I.os, I.bare, ⟨fun b o e n hb hx => (hs.2 b (below e)).trans (I.base.keep b o e n hb hx), fun b o e n hb hx => ?_, I.base.free, fun b o e hx => ?_, I.base.tups, I.base.frzs, I.base.tbls⟩, ⟨_, hn', fun j y v' e1 e2 e3 => ?_⟩, fun y c e => ?_, I.free, I.freeC, fun p hp => ?_, fun b ob e => ?_, by rw [List.length_set]; exact I.len⟩
  · obtain ⟨sl, z⟩ := I.base.slot b o e n hb hx
    exact ⟨sl, (hs.2 b (below e)).trans z⟩
  · obtain ⟨o', z⟩ := I.base.there b o e hx
    exact ⟨o', (hs.2 b (below e)).trans z⟩
  · by_cases hj : j = i
    · subst hj
      rw [List.getElem?_set_self (by rw [I.len]; exact (List.getElem?_eq_some_iff.mp hi).1)] at e2
      cases e2
    · rw [List.getElem?_set_ne (Ne.symm hj)] at e2
      obtain ⟨w', r', q⟩ := hlk j y v' e1 e2 e3
      refine ⟨w', r', ?_⟩
      rcases q with ⟨k, z⟩ | ⟨k, c, z, zz⟩
      · refine .inl ⟨k, ?_⟩
        have : y ≠ n := fun z => hj (nodup_ix hN e1 (z ▸ hi))
        show (if y = n then u' else m y) = _
        rw [if_neg this]; exact z
      · exact .inr ⟨k, c, z, zz.sameBut hs (I.cne y c z)⟩
  · obtain ⟨w', z⟩ := I.cell y c e
    exact ⟨w', z.sameBut hs (I.cne y c e)⟩
  · obtain ⟨e, n, ne, nf, d⟩ := I.pin p hp
    exact ⟨(hs.2 p.1 ne).trans e, n, ne, nf, d⟩
  · refine (I.hok b ob e).stay (fun c w' hc q => (hs.2 c ?_).trans q) (fun _ q => q) fun _ _ q => q
    rintro rfl
    rcases hc with z | hc
    · rw [← z, I.free] at e; cases e
    · rw [I.free] at hc; cases hc
/-- within an except suite -/
def marked (X : Cx) (e : Value) : Cx := { X with A := X.A.mark (some e), calm := false, xe := fun _ _ => False }
theorem Inv.mark (I : Inv X pins σ H s) (e : Value) : Inv (marked X e) pins σ H s :=
  ⟨⟨I.ok.mod, I.ok.kind, I.ok.glob, I.ok.blt, I.ok.above, I.ok.inj, I.ok.has, I.ok.cab, (fun z => absurd (show false = true from z) Bool.false_ne_true), I.ok.frames, I.ok.stk, I.ok.exf, I.ok.bs, I.ok.bsz, I.ok.noex, I.ok.exfs, I.ok.funs, I.ok.frf⟩, I.os, I.bare, I.base, I.loc, I.cell, I.free, I.freeC, I.pin, I.hok, I.len⟩
theorem Inv.unmark {e : Value} (I0 : Inv X pins σ H s) {σ' : St} {H' : Hp} {s' : Shared} (I : Inv (marked X e) pins σ' H' s') : Inv X pins σ' H' s' :=
  ⟨I0.ok, I.os, I.bare, I.base, I.loc, I.cell, I.free, I.freeC, I.pin, I.hok, I.len⟩
@[irreducible] def xCatch (K : PySem.W.Frag) (CH : Addr) (D : Ends) (σ : St) (ke ky : Nat) (cls : Value) (dx : Option Addr) (H' : Hp) : Prop := PySem.W.exmOne K cls (.ref CH) = some true ∧
  ∀ ea H'', H' ea = none → Same H' H'' → H'' ea = some (excO ea cls dx) → D.nx ((σ.set ke none).set ky (some (.ref ea))) H''
def qTry (K : PySem.W.Frag) (CH : Addr) (t : XK → TS) (ke ky : Nat) : TS := fun D σ H => t (fun cls dx H' => xCatch K CH D σ ke ky cls dx H') D σ H
theorem psTry {K : PySem.W.Frag} {body : List Stmt} {t : XK → TS} {hx n y : Str} {CH : Addr} {ke ky : Nat} {np p1 p2 p3 hpos pos : Pos} (hK : X.K = K) (hN : X.N.Nodup) (hcl : X.mg hx = some (.ref CH)) (hb : PSXs X body t)
    (hke : X.N[ke]? = some n := by rfl) (hky : X.N[ky]? = some y := by rfl) (hkk : ke ≠ ky := by decide) (hln : X.env.kindOf n = some .local := by rfl) (hly : X.env.kindOf y = some .local := by rfl) (hgl : Gl X hx := by rfl) (hdb : (hx == ("__debug__" : Str)) = false := by decide)
    (hnd : (n == ("__debug__" : Str)) = false := by decide) (hnc : (n == ("__classdict__" : Str)) = false := by decide)
    (hstk : X.stack = X.env :: X.outer := by rfl) (hfr : X.env.frame = some X.env.locals := by rfl) (hex : X.ex = [] := by rfl) (hs : swapsWith (.Name n p2) (some (.Name y p1)) p3.line X.env = pure false := by rfl) :
    PS X (.Try body [.ExceptHandler (some (.Name hx np)) (some n) [.Assign [.Name y p1] (.Name n p2) p3] hpos] [] [] pos) (qTry K CH t ke ky) := by
  subst hK
  intro pins s σ H D I h
  rw [arm_exec_Try]
  refine wpAny_bind (wpAny_standAt (wpAny_tryStmt_except (wpAny_mono (hb pins s σ H D _ I h) (fun f s1 q => ?_) fun e s1 q => ?_)))
  · cases f with
    | next => exact wpAny_execs_nil q
    | brk => exact q
    | cont => exact q
    | ret u => exact q
  · obtain ⟨H1, B, ea, cls, dx, rfl, F, hp, q⟩ := q
    unfold xCatch at q
    obtain ⟨hm, q⟩ := q
    have I1 := F.inv
    refine note_fly (L := X.env.locals) (outer := X.outer) (by rw [← hstk]; exact I1.ok.frames) hfr (by rw [← hstk]; exact F.fly) fun h2 F2 U2 W2 => ?_
    rw [← hstk] at F2
    have F2 := F.move hp F2 U2 W2
    have I2 := F2.inv
    refine wpAny_handleBy_cons (codeAny_handlers_test ?_) (by intro z; cases z)
    refine ld_glob (X := marked X (.ref ea)) (I2.mark _) hgl hcl ?_ hdb
    have LT : PySem.W.Looks (model X.prog X.w) h2 (typeOf (.ref ea)) cls := by
      obtain ⟨oe, vs, he, hc, _⟩ := F2.fly.ex
      exact hc ▸ (PySem.W.Looks.ld he).andThen .now
    refine (PySem.W.exm_one I2.kIn LT hm).here ?_
    refine codeAny_handlers_suite_as ?_
    refine set_fly F2.fly fun h3 F3 U3 W3 => ?_
    have F3 := F2.move hp F3 U3 W3
    obtain ⟨hn, I3⟩ := F3.track hp hex
    have hlσ : ke < σ.length := by rw [I1.len]; exact (List.getElem?_eq_some_iff.mp hke).1
    refine store_ok I3 hN hke (.inl hln) (v := .ref ea) rfl (fun s4 I4 => ?_) (.inr hln)
    have pn : PS (marked X (.ref ea)) (.Assign [.Name y p1] (.Name n p2) p3) (tAsg (qV ke) (gName ky)) := ps_set (X := marked X (.ref ea)) hN hky (.inl hly) (pq (X := marked X (.ref ea)) ke hke (.inl hln) hnd hnc) hs (.inr hly)
    refine wpAny_mono (pss_one pn pins s4 _ _ { nx := fun σ' H' => σ' = (σ.set ke (some (.ref ea))).set ky (some (.ref ea)) ∧ H' = upd H1 ea (excO ea cls dx), rt := fun _ _ => False } (I4.mark (.ref ea)) ?_) (fun f s5 q5 => ?_) fun _ _ z => (show False from z).elim
    · show qV ke (σ.set ke (some (.ref ea))) _ _
      unfold qV
      rw [List.getElem?_set_self hlσ]
      exact ⟨rfl, rfl⟩
    · cases f with
      | next =>
        obtain ⟨σ5, H5, I5, rfl, rfl⟩ := q5
        have I5 := Inv.unmark I1 I5
        refine wpAny_bind (wpAny_bindName (store_ok I5 hN hke (.inl hln) (v := .non) rfl (fun s6 I6 => ?_) (.inr hln)))
        refine wpAny_onRaise (unbind_ok (v := .non) I6 hN hke hln (by rw [List.getElem?_set_self (by rw [List.length_set, List.length_set]; exact hlσ)]) fun s7 I7 => ?_)
        refine ⟨_, _, I7, ?_⟩
        rw [List.set_set, List.set_comm _ _ (Ne.symm hkk), List.set_set]
        exact q ea _ hn (Same.upd hn) upd_same
      | brk => obtain ⟨_, _, _, z⟩ := q5; exact False.elim z
      | cont => obtain ⟨_, _, _, z⟩ := q5; exact False.elim z
      | ret u => obtain ⟨_, _, _, _, _, z⟩ := q5; exact False.elim z
end
end L2

set_option Elab.async false
set_option linter.all false
set_option maxRecDepth 100000
set_option maxHeartbeats 4000000
namespace L2
open PySem PySem.Spec PyProof.Rows
/-! ### what the written part says of the classes -/
section
open PySem.W
theorem kitCls_ref {K : Frag} {t : Value} {C : Addr} {cd : ClassData} {b : Bool} (h1 : clsIn K C = some cd) (h2 : typeIn K (.ref C) = some (.type "type")) (h3 : subIn K t (.ref C) = some b) : kitCls K t (.ref C) = some b := by
  unfold kitCls
  dsimp only
  rw [h1, h2, if_pos (by simp)]
  exact h3
theorem kit_ref {K : Frag} {t : Value} {C : Addr} {cd : ClassData} {b : Bool} (h1 : clsIn K C = some cd) (h2 : typeIn K (.ref C) = some (.type "type")) (h3 : subIn K t (.ref C) = some b) (h4 : subIn K t t = some true) : kitOne K t (.ref C) = some b := by
  unfold kitOne
  split
  · rename_i z
    have z : t = .ref C := by simpa using z
    subst z
    rw [h3] at h4
    exact h4.symm
  · exact kitCls_ref h1 h2 h3
theorem kit_none {K : Frag} {C : Addr} {cd : ClassData} {b : Bool} (h1 : clsIn K C = some cd) (h2 : typeIn K (.ref C) = some (.type "type")) (h3 : subIn K (.type "NoneType") (.ref C) = some b) : kitOne K (.type "NoneType") (.ref C) = some b := by
  unfold kitOne
  rw [if_neg (by simp)]
  exact kitCls_ref h1 h2 h3
theorem kit_ValueError {K : Frag} {D : Addr} {b : Bool} (h : subIn K (.ref D) (.type "ValueError") = some b) : kitOne K (.ref D) (.type "ValueError") = some b := by
  unfold kitOne kitCls
  rw [if_neg (by simp)]
  dsimp only
  rw [if_pos (by decide +kernel)]
  exact h
theorem exm_ref {K : Frag} {t : Value} {C : Addr} {cd : ClassData} {b : Bool} (h0 : subIn K (.ref C) (.type "BaseException") = some true) (h1 : clsIn K C = some cd) (h2 : typeIn K (.ref C) = some (.type "type")) (h3 : subIn K t (.ref C) = some b) : exmOne K t (.ref C) = some b := by
  unfold exmOne
  rw [if_pos (by rw [h0]; simp)]
  exact kitCls_ref h1 h2 h3
end
/-- what a caught exception is -/
theorem catch_rd {K : PySem.W.Frag} {CH : Addr} {D : Ends} {σ : St} {ke ky : Nat} {cls : Value} {dx : Option Addr} {H' : Hp} (h1 : PySem.W.exmOne K cls (.ref CH) = some true) (h2 : ∀ ea H'', H' ea = none → Same H' H'' → H'' ea = some (excO ea cls dx) → D.nx ((σ.set ke none).set ky (some (.ref ea))) H'') : xCatch K CH D σ ke ky cls dx H' := by
  unfold xCatch; exact ⟨h1, h2⟩
abbrev bmV : List Value := [.type "ValueError", .type "Exception", .type "BaseException", .type "object"]
abbrev newV : String := "ValueError.__new__"
/-! ### list.index of flat things -/
section
variable {X : Cx} {K : PySem.W.Frag}
@[irreducible] def rIdxA (p : Addr) (x : V) (H : Hp) (Q : VK) : Prop := ∃ (xs : List V) (j : Nat), H p = some (.lst xs) ∧ flatV x = true ∧ xs.all flatV = true ∧ (∃ y, xs[j]? = some y ∧ eqV y x = true) ∧ (∀ m y, m < j → xs[m]? = some y → eqV y x = false) ∧ Q (.int j) H
def rIdxM : Addr → List V → Hp → VK → Prop := fun p vs H Q => match vs with
  | [v] => rIdxA p v H Q
  | _ => False
theorem mIndex : MtA X "list.index" rIdxM := fun pins s σ H p xs us Q I r h => by
  unfold rIdxM at h
  split at h
  · rename_i v
    unfold rIdxA at h
    obtain ⟨ys, j, h1, h2, h3, ⟨y, hy, hit⟩, hno, h4⟩ := h
    obtain ⟨u, rfl, ru⟩ := r.one
    obtain ⟨z, its, n, r', hl, e⟩ := I.lstM h1
    have hj : j < its.toArray.size := by
      have := (List.getElem?_eq_some_iff.mp hy).1
      rw [List.size_toArray]; omega
    have at_ : ∀ (m : Nat) (hm : m < its.toArray.size), ∃ y, ys[m]? = some y ∧ eqU v its.toArray[m] = eqV y v := fun m hm => by
      rw [List.size_toArray] at hm
      obtain ⟨w', e1, q1⟩ := r'.get (List.getElem?_eq_getElem (show m < ys.length by omega))
      refine ⟨_, List.getElem?_eq_getElem (by omega), ?_⟩
      have i1 : its.toArray[m] = w' := by
        have := (List.getElem?_eq_some_iff.mp e1).2
        simpa using this
      rw [i1]
      exact eqU_of q1 (List.all_eq_true.mp h3 _ (List.getElem_mem _))
    have hz : its.length ≤ sizeLine := by omega
    rw [sizeLine_eq] at hz
    refine call_meets F.slot_list_index ⟨_, e, rfl⟩ F.entry_list_index (F.args_list_index_2 _ _) (SeqAt.list_indexAt p its.toArray n none #[] u (eqU v) j hj (by rw [List.size_toArray] at hj; omega) ?_ ?_) ⟨e, fun y hy => mem_eqAt ru h2 r' h3 y (by simpa using hy), ⟨.int _, H, I.tok _, ⟨_, rfl⟩, h4⟩⟩
    · obtain ⟨y', e1, e2⟩ := at_ j hj
      rw [hy] at e1
      cases e1
      rw [e2]; exact hit
    · intro m hm hlt
      obtain ⟨y', e1, e2⟩ := at_ m hm
      rw [e2]; exact hno m y' hlt e1
  · exact h.elim
theorem idx_rd {p : Addr} {x : V} {H : Hp} {Q : VK} {xs : List V} (j : Nat) (h : H p = some (.lst xs)) (h1 : flatV x = true) (h2 : xs.all flatV = true) (h3 : ∃ y, xs[j]? = some y ∧ eqV y x = true) (h4 : ∀ m y, m < j → xs[m]? = some y → eqV y x = false) (q : Q (.int j) H) : rIdxA p x H Q := by unfold rIdxA; exact ⟨xs, j, h, h1, h2, h3, h4, q⟩
theorem peM_index {o e : Expr} {to : TE} {t : TA} {apos cpos : Pos} (hK : X.K = K) (ho : PE X o to) (ha : PA X [e] t) (hbase : attributeBase o "index" X.env (eval o X.env) = eval o X.env := by rfl)
    (hfew : ((backTo cpos (starEach [e] X.env)).all (fun x => !x.1) && (backToKw cpos (keywordEach [] X.env)).all (fun x => x.1.isSome)
      && decide ([e].length + ([] : List Keyword).length + (if ([] : List Keyword).isEmpty then 0 else 1) < 30)) = true := by rfl)
    (hline : (apos.endLine == cpos.line) = true := by rfl) (hs : starEach [e] X.env = (false, eval e X.env) :: starEach [] X.env := by rfl) (hplain : (backTo cpos (starEach [] X.env)).any (·.1) = false := by rfl) : PE X (.Call (.Attribute o "index" apos) [e] [] cpos) (qBM K rIdxM to t) := by
  subst hK
  exact peBM PySem.F.slot_list_index PySem.F.type_list_index mIndex ho ha hbase hfew hline hs hplain
end
/-! ### the same words, closed: a row of literals alone would be run while its term is read -/
section
variable {X : Cx} {st : Stmt} {rest : List Stmt} {t u : TS} {e : Expr} {es : List Expr} {te : TE} {ta : TA}
@[irreducible] def PSsI (X : Cx) (st : List Stmt) (t : TS) : Prop := PSs X st t
@[irreducible] def PSI (X : Cx) (st : Stmt) (t : TS) : Prop := PS X st t
@[irreducible] def PEI (X : Cx) (e : Expr) (t : TE) : Prop := PE X e t
@[irreducible] def PAI (X : Cx) (es : List Expr) (t : TA) : Prop := PA X es t
theorem psOf (h : PS X st t) : PSI X st t := by unfold PSI; exact h
theorem pssTo {st : List Stmt} (h : PSsI X st t) : PSs X st t := by unfold PSsI at h; exact h
theorem pssI_cons (h1 : PSI X st t) (h2 : PSsI X rest u) : PSsI X (st :: rest) (tSeq t u) := by unfold PSsI PSI at *; exact pss_cons h1 h2
theorem pssI_one (h1 : PSI X st t) : PSsI X [st] t := by unfold PSsI PSI at *; exact pss_one h1
theorem psIS {i : Nat} {x : Str} {pos' pos : Pos} (hN : X.N.Nodup) (he : PEI X e te) (hi : X.N[i]? = some x := by rfl) (hx : Loc X.env.scope x := by first | exact Or.inl rfl | exact Or.inr rfl) (hs : swapsWith e (some (.Name x pos')) pos.line X.env = pure false := by rfl) (hf : X.fn x = true ∨ X.env.scope.names.lookup x = some .local := by first | exact .inl rfl | exact .inr rfl | assumption) :
    PSI X (.Assign [.Name x pos'] e pos) (tAsg te (gName i)) := by unfold PSI PEI at *; exact ps_set hN hi hx he hs hf
theorem peILst {pos : Pos} (h : PAI X es ta) : PEI X (.List es pos) (qLst ta) := by unfold PEI PAI at *; exact peLst h
theorem peI_str {x j pos} : PEI X (.Constant (.str x) j pos) (tC (.str x)) := by unfold PEI; exact pe_str
theorem paI_nil : PAI X [] tNil := by unfold PAI; exact pa_nil
theorem paI_cons (ha : PEI X e te) (hr : PAI X es ta) (hs : starEach (e :: es) X.env = (false, eval e X.env) :: starEach es X.env := by rfl) : PAI X (e :: es) (tCons te ta) := by unfold PEI PAI at *; exact pa_cons ha hr hs
end
end L2

set_option Elab.async false
set_option linter.all false
set_option maxRecDepth 100000
set_option maxHeartbeats 1000000
namespace L2
open PySem PySem.Spec PyProof.Rows
/-! ### sorted(e, reverse = True), of ints -/
section
variable {X : Cx} {K : PySem.W.Frag}
end
end L2

set_option Elab.async false
set_option linter.all false
set_option maxRecDepth 100000
set_option maxHeartbeats 2000000
namespace L2
open PySem PySem.Spec PyProof.Rows
/-! ### zip over two lists -/
section
variable {X : Cx} {K : PySem.W.Frag}
end
section
variable {K : PySem.W.Frag} {g : TG} {tb : TS} {D : Ends} {σ : St} {H : Hp} {R : It → Hp → Prop}
end
end L2

set_option Elab.async false
set_option linter.all false
set_option maxRecDepth 100000
set_option maxHeartbeats 2000000
namespace L2
open PySem PySem.Spec PyProof.Rows
section
variable {X : Cx} {K : PySem.W.Frag}
/-! ### list(range(n)) -/
end
/-! ### comprehensions of things with new objects behind them -/
section
variable {J : It} {n : Nat} {H1 : Hp} {X : Nat → V → Hp → Prop} {g : TG} {tt : TT} {te : TE} {σ0 : St} {Q : VK}
theorem comp_A (w : Wk J n H1 X) (hn : n < sizeLine) (Pv : Addr → Nat → List V → St → Hp → Prop) (h0 : ∀ acc H, H1 acc = none → Same H1 H → H acc = some (.lst []) → Pv acc 0 [] σ0 H)
    (hP : ∀ acc i ys σ H H', Same H H' → Pv acc i ys σ H → Pv acc i ys σ H')
    (turn : ∀ acc i x ys σ H (R : St → V → Hp → Prop) (S : St → Hp → Prop), i < n → H1 acc = none → Same H1 H → H acc = some (.lst ys) → X i x H → Pv acc i ys σ H →
      (∀ σ2 v H5, Same H H5 → (∀ H6, Chg acc H5 H6 → Pv acc (i + 1) (ys ++ [v]) σ2 H6) → R σ2 v H5) → (∀ σ2 H5, Same H H5 → Pv acc (i + 1) ys σ2 H5 → S σ2 H5) →
      g x σ H fun σ2 H3 => tt σ2 H3 fun b H4 => br b (te σ2 H4 fun v H5 => R σ2 v H5) (S σ2 H4))
    (fin : ∀ acc ys σ H, H1 acc = none → Same H1 H → H acc = some (.lst ys) → Pv acc n ys σ H → Q (.ref acc) H) : compW J g tt te σ0 H1 Q := by
  unfold compW
  intro acc H2 hf hs ha
  refine ⟨fun i m ys σ H => m = n - i ∧ i ≤ n ∧ ys.length ≤ i ∧ Same H1 H ∧ H acc = some (.lst ys) ∧ Pv acc i ys σ H, ⟨n, by simp, Nat.zero_le _, Nat.le_refl _, hs, ha, h0 acc H2 hf hs ha⟩, ?_⟩
  rintro i m ys σ H ⟨rfl, hi, hl, s, hy, P⟩
  refine ⟨hy, by omega, ?_⟩
  by_cases hlt : i < n
  · refine .inr ⟨w.go i H s hlt, fun x H' y => ?_⟩
    obtain ⟨s1, x1⟩ := w.yld i H x H' s hlt y
    refine turn acc i x ys σ H' (fun σ2 v H5 => cPut _ acc ys i (n - i) σ2 v H5) (fun σ2 H4 => cSkip _ ys i (n - i) σ2 H4) hlt hf (s.trans s1) (s1 _ _ hy) x1 (hP _ _ _ _ _ _ s1 P) ?_ ?_
    · intro σ2 v H5 s5 q
      have s15 := s1.trans s5
      unfold cPut
      refine ⟨s15 _ _ hy, fun H6 c6 h6 => ⟨n - (i + 1), by omega, rfl, hlt, by rw [List.length_append]; simp; omega, (s.trans s15).chg hf c6, h6, q H6 c6⟩⟩
    · intro σ2 H5 s5 q
      have s15 := s1.trans s5
      unfold cSkip
      exact ⟨n - (i + 1), by omega, rfl, hlt, by omega, s.trans s15, s15 _ _ hy, q⟩
  · have e : i = n := by omega
    subst e
    exact .inl ⟨w.stop H s, fin acc ys σ H hf s hy P⟩
end
end L2

set_option Elab.async false
set_option linter.all false
set_option maxRecDepth 100000
set_option maxHeartbeats 2000000
/-! ### zip over three lists: iterators at n, n + 1, n + 2, what is walked at n + 3, what is told at n + 4, the zip at n + 5 -/
namespace PySem
open Sem (wp)
namespace F
end F
section
variable {prog : Program} {w : World} {A : Around} {E : Value → Shared → Prop} {s : Shared}
end
section
variable {prog : Program} {w : World} {A : Around} {E : Value → Shared → Prop} {s : Shared}
end
end PySem

set_option Elab.async false
set_option linter.all false
set_option maxRecDepth 100000
set_option maxHeartbeats 2000000
namespace L2
open PySem PySem.Spec PyProof.Rows
/-! ### zip over three lists of one length -/
section
variable {X : Cx} {K : PySem.W.Frag}
end
section
variable {K : PySem.W.Frag} {H : Hp} {R : It → Hp → Prop}
end
end L2

set_option Elab.async false
set_option linter.all false
set_option maxRecDepth 100000
set_option maxHeartbeats 2000000
namespace L2
open PySem PySem.Spec PyProof.Rows
/-! ### xs.pop() -/
section
variable {X : Cx} {K : PySem.W.Frag}
@[irreducible] def rPopA (p : Addr) (H : Hp) (Q : VK) : Prop := ∃ xs y, H p = some (.lst xs) ∧ xs[xs.length - 1]? = some y ∧ ∀ H', Chg p H H' → H' p = some (.lst xs.dropLast) → Q y H'
def rPopM : Addr → List V → Hp → VK → Prop := fun p vs H Q => match vs with
  | [] => rPopA p H Q
  | _ => False
theorem mPop : MtA X "list.pop" rPopM := fun pins s σ H p xs us Q I r h => by
  unfold rPopM at h
  split at h
  · unfold rPopA at h
    obtain ⟨ys, y, h1, h2, h3⟩ := h
    exact mt_pop pins s σ H (.ref p) [] (.ref p) us Q I rfl r ⟨p, ys, y, rfl, rfl, h1, h2, h3 _ Chg.upd upd_same⟩
  · exact h.elim
theorem peM_pop {o : Expr} {to : TE} {apos cpos : Pos} (hK : X.K = K) (ho : PE X o to) (hbase : attributeBase o "pop" X.env (eval o X.env) = eval o X.env := by rfl) (hline : (apos.endLine == cpos.line) = true := by rfl) : PE X (.Call (.Attribute o "pop" apos) [] [] cpos) (qBM0 K rPopM to) := by
  subst hK
  exact peBM0 PySem.F.slot_list_pop PySem.F.type_list_pop mPop ho hbase hline
theorem pop_rd {p : Addr} {H : Hp} {Q : VK} {xs : List V} {y : V} (h : H p = some (.lst xs)) (hy : xs[xs.length - 1]? = some y) (q : ∀ H', Chg p H H' → H' p = some (.lst xs.dropLast) → Q y H') : rPopA p H Q := by unfold rPopA; exact ⟨xs, y, h, hy, q⟩
end
end L2

set_option Elab.async false
set_option linter.all false
set_option maxRecDepth 100000
set_option maxHeartbeats 2000000
namespace L2
open PySem PySem.Spec PyProof.Rows
/-! ### sorted(e), of ints -/
section
variable {X : Cx} {K : PySem.W.Frag}
end
end L2

set_option Elab.async false
set_option linter.all false
set_option maxRecDepth 100000
set_option maxHeartbeats 2000000
namespace L2
open PySem PySem.Spec PyProof.Rows
/-! ### tuple(e) of a list; tuples walked in a comprehension -/
section
variable {X : Cx} {K : PySem.W.Frag}
@[irreducible] def rTupA (K : PySem.W.Frag) (p : Addr) (H : Hp) (Q : VK) : Prop := ∃ ys, SqL K H p ys ∧ ∀ l H', H l = none → Same H H' → H' l = some (.tup ys) → Q (.ref l) H'
def rTupM (K : PySem.W.Frag) : List V → Hp → VK → Prop := fun xs H Q => match xs with
  | [.ref p] => rTupA K p H Q
  | _ => False
theorem cTupK (hK : X.K = K) : CallR X (.type "tuple") (rTupM K) := fun pins s σ H xs us Q I r h => by
  subst hK
  unfold rTupM at h
  split at h
  · unfold rTupA at h
    obtain ⟨ys, h1, h2⟩ := h
    exact call_tuple_of pins s σ H _ us Q I r ⟨_, ys, rfl, .inl ⟨h1, fun l hl => h2 l _ hl (Same.upd hl) upd_same⟩⟩
  · exact h.elim
theorem tupL_rd {p : Addr} {H : Hp} {Q : VK} {ys : List V} (h : SqL K H p ys) (q : ∀ l H', H l = none → Same H H' → H' l = some (.tup ys) → Q (.ref l) H') : rTupA K p H Q := by unfold rTupA; exact ⟨ys, h, q⟩
end
theorem Same.seqT {K : PySem.W.Frag} {H H' : Hp} {a : Addr} {xs : List V} (e : Same H H') (h : H a = some (.tup xs)) : SqT K H' a xs := SqT.of (e _ _ h)
theorem Wk.tup {K : PySem.W.Frag} {a : Addr} {xs : List V} {H1 : Hp} (h : H1 a = some (.tup xs)) : Wk (Itt K a) xs.length H1 fun i x _ => xs[i]? = some x :=
  ⟨fun i H s hi => ⟨xs, xs[i], Same.seqT s h, by simp [hi]⟩, fun H s => ⟨xs, Same.seqT s h, Nat.le_refl _⟩, fun i H x H' s _ y => by
    obtain ⟨e, y⟩ := y
    subst e
    exact ⟨Same.refl _, y xs (Same.seqT s h)⟩⟩
end L2

set_option Elab.async false
set_option linter.all false
set_option maxRecDepth 100000
set_option maxHeartbeats 4000000
namespace L2
open PySem PySem.Spec PyProof.Rows
/-! ### isinstance(x, (C, D)) -/
section
variable {X : Cx} {K : PySem.W.Frag} {H : Hp} {Q : VK}
end
/-! ### list.count of a text among things of all kinds -/
section
variable {X : Cx} {K : PySem.W.Frag}
end
end L2

set_option Elab.async false
set_option linter.all false
set_option maxRecDepth 100000
set_option maxHeartbeats 4000000
namespace L2
open PySem PySem.Spec PyProof.Rows
/-! ### a class of exceptions with an __init__ of its own: it is made -/
section
variable {prog : Program} {w : World} {A : Around} {E : Value → Shared → Prop} {h : Heap} {g : Array GenState} {d : Drawn} {t : Nat} {os : OsState}
variable {nm q : Str} {C N : Addr} {bs bm bmB : List Value} {hdct : Bool} {sn : List Str} {sub : List Value} {ab : Bool} {col : Option Bool} {dd : Option Addr} {k0 k1 k2 k3 k5 : Option Value} {B newId initId : String} {K : PySem.W.Frag}
theorem type_call_excI (F : ExcBaseFacts B newId initId bmB) (T : OwnTail h bmB bm) (X : K.In h) {rest : List Value} {fI : Addr} {Q : Fin → Shared → Prop}
    (hC : h.get? C = some (excClassObj nm q C N bs bm hdct sn sub ab col dd k0 k1 k2 k3 k5 newId)) (hi : PySem.W.findIn K (.ref C) "__init__" = some (some (.ref fI))) (hf : PySem.W.typeIn K (.ref fI) = some (.type "function"))
    (hq : ∀ h' e, Heap.MadeExcOf h h' e (.ref C) rest → h.objs.size ≤ e → wpAny (model prog w) A (call (.ref fI) (.ref e :: rest)) (fun r s' => r = .none ∧ Q (.done (.ret (.ref e))) s') E ⟨h', g, d, t, os⟩) (hrest : rest.length ≤ sizeLine) :
    wpAny (model prog w) A (Builtin.«type.__call__» ⟨.ref C :: rest, []⟩) Q E ⟨h, g, d, t, os⟩ := by
  repeat (first | with_reducible refine wpAny_loadPart_at hC ?_ | with_reducible refine wpAny_madeBy_exc hC ?_ | wp_step)
  refine codeAny_call_builtin_code (Code.quiet_builtin _ F.quiet) (wpAny_check_new_subT F T hC ?_)
  refine codeAny_exc_new_subT F T hC ?_ hrest
  show wpAny _ _ _ _ _ _
  have kp : ∀ b o, h.get? b = some o → ((h.push { cls := .type "tuple", data := .seq rest.toArray }).push { cls := .ref C, data := .fields #[.ref h.objs.size, .none, .none, .none, .bool false, .none] }).get? b = some o := fun b o e => Heap.get?_push_of_some _ (Heap.get?_push_of_some _ e)
  have hC₁ := kp _ _ hC
  have X₁ := X.keeps kp
  have hget : ((h.push { cls := .type "tuple", data := .seq rest.toArray }).push
      { cls := .ref C, data := .fields #[.ref h.objs.size, .none, .none, .none, .bool false, .none] }).get? (h.objs.size + 1) = some
      { cls := .ref C, data := .fields #[.ref h.objs.size, .none, .none, .none, .bool false, .none] } := by heap_get
  have hcC : (Value.ref C :: bm).contains (.ref C) = true := by simp
  unfold isInstance
  repeat (first | with_reducible refine wpAny_loadPart_at hget ?_ | (with_reducible refine wpAny_isSubtype_exc hC₁ ?_; rw [hcC]) | wp_step)
  show wpAny _ _ (typeLookup (.ref C) _) _ _ _
  refine (PySem.W.looks_findIn X₁ hi).at ?_
  refine wpAny_holding (wpAny_bind ((PySem.W.bind_fn X₁ _ hf).at ?_))
  refine wpAny_bind (wpAny_mono (hq _ (h.objs.size + 1) ⟨kp, Heap.get?_none_of_le (Nat.le_succ _), h.objs.size, hget, Heap.get?_none_of_le (Nat.le_refl _), ?_⟩ (Nat.le_succ _)) (fun r s' hr => ?_) fun _ _ x => x)
  · exact Heap.get?_push_of_some _ (Heap.get?_push_at rfl rfl)
  · obtain ⟨rfl, hQ⟩ := hr
    wp_walk
    exact hQ
theorem call_excI (F : ExcBaseFacts B newId initId bmB) (T : OwnTail h bmB bm) (X : K.In h) {rest : List Value} {fI : Addr} {Q : Value → Shared → Prop}
    (hC : h.get? C = some (excClassObj nm q C N bs bm hdct sn sub ab col dd k0 k1 k2 k3 k5 newId)) (hi : PySem.W.findIn K (.ref C) "__init__" = some (some (.ref fI))) (hf : PySem.W.typeIn K (.ref fI) = some (.type "function"))
    (hq : ∀ h' e, Heap.MadeExcOf h h' e (.ref C) rest → h.objs.size ≤ e →
      wpAny (model prog w) (A.under (.builtin "type.__call__" ⟨.ref C :: rest, []⟩)) (call (.ref fI) (.ref e :: rest)) (fun r s' => r = .none ∧ Q (.ref e) s') E ⟨h', g, d, t, os⟩) (hrest : rest.length ≤ sizeLine) :
    wpAny (model prog w) A (call (.ref C) rest) Q E ⟨h, g, d, t, os⟩ := by
  have f1 := tc_lookup
  have f2 := tc_bind (.ref C)
  have hT : (⟨h, g, d, t, os⟩ : Shared).TypeIs (.ref C) "type" := ⟨_, hC, rfl⟩
  refine wpAny_call (codeAny_of_tree ?_)
  show wpAny _ _ (callAny (.ref C) _) _ _ _
  repeat (any_goals (first | assumption | with_reducible refine wpAny_loadPart_at hC ?_ | wp_step))
  refine ⟨rfl, ?_⟩
  refine codeAny_call_builtin_at (Code.quiet_builtin _ (by decide +kernel)) entry_typeCall (wpAny_check_type_call_sub hC (type_call_excI (hrest := hrest) F T X hC hi hf fun h' e hm hz => ?_))
  exact hq h' e hm hz
end
section
variable {prog : Program} {w : World} {A : Around} {E : Value → Shared → Prop} {s : Shared} {env : Env}
variable {nm q : Str} {C N : Addr} {bs bm bmB : List Value} {hdct : Bool} {sn : List Str} {sub : List Value} {ab : Bool} {col : Option Bool} {dd : Option Addr} {k0 k1 k2 k3 k5 : Option Value} {B newId initId : String} {K : PySem.W.Frag}
theorem raiseStmt_madeI {M : Model} {x : Sem Value} {Q : Flow → Shared → Prop} (hbase : bm.contains (.type "BaseException") = true) (hh : A.handled = none)
    (h : wpAny M A x (fun v s₁ => ∃ (e t : Addr) (dx : Option Addr), v = .ref e ∧ s₁.heap.get? C = some (excClassObj nm q C N bs bm hdct sn sub ab col dd k0 k1 k2 k3 k5 newId) ∧ s₁.heap.get? e = some { cls := .ref C, dict := dx, data := .fields #[.ref t, .none, .none, .none, .bool false, .none] } ∧ E (.ref e) s₁) E s) :
    wpAny M A (raiseStmt env (some x) none) Q E s := by
  have hcB : (Value.ref C :: bm).contains (.type "BaseException") = true := by rw [List.contains_cons, hbase, Bool.or_true]
  unfold raiseStmt
  refine wpAny_bind (wpAny_mono h (fun v s₁ h₁ => ?_) fun _ _ x => x)
  obtain ⟨e, t, dx, rfl, hC, he, hE⟩ := h₁
  obtain ⟨hp, g, d, tk, os⟩ := s₁
  repeat (first | with_reducible refine wpAny_loadPart_at he ?_ | with_reducible refine wpAny_loadPart_at hC ?_ | (with_reducible refine wpAny_isSubtype_exc hC ?_; rw [hcB]) | wp_step)
  exact wpAny_raiseNew_none hh hE
theorem raise_excI (F : ExcBaseFacts B newId initId bmB) {x : Str} {np cpos pos : Pos} {args : List Expr} {fI : Addr} {Q : Flow → Shared → Prop}
    (hbase : bm.contains (.type "BaseException") = true) (hh : A.handled = none) (hplain : (backTo cpos (starEach args env)).any (·.1) = false) (hi : PySem.W.findIn K (.ref C) "__init__" = some (some (.ref fI))) (hf : PySem.W.typeIn K (.ref fI) = some (.type "function"))
    (h : wpAny (model prog w) A (eval (.Name x np) env) (fun f s₁ => f = .ref C ∧ wpAny (model prog w) A (evalArgs (.ref C) true (backTo cpos (starEach args env)) [])
      (fun a s₂ => a.kw = [] ∧ a.pos.length ≤ sizeLine ∧ s₂.heap.get? C = some (excClassObj nm q C N bs bm hdct sn sub ab col dd k0 k1 k2 k3 k5 newId) ∧ K.In s₂.heap ∧ OwnTail s₂.heap bmB bm ∧
        ∀ h' e, Heap.MadeExcOf s₂.heap h' e (.ref C) a.pos → s₂.heap.objs.size ≤ e → wpAny (model prog w) (A.under (.builtin "type.__call__" ⟨.ref C :: a.pos, []⟩)) (call (.ref fI) (.ref e :: a.pos))
          (fun r s' => r = .none ∧ (∃ (t : Addr) (dx : Option Addr), s'.heap.get? e = some { cls := .ref C, dict := dx, data := .fields #[.ref t, .none, .none, .none, .bool false, .none] }) ∧ s'.heap.get? C = some (excClassObj nm q C N bs bm hdct sn sub ab col dd k0 k1 k2 k3 k5 newId) ∧ E (.ref e) s') E { s₂ with heap := h' }) E s₁) E s) :
    wpAny (model prog w) A (exec (.Raise (some (.Call (.Name x np) args [] cpos)) none pos) env) Q E s := by
  rw [arm_exec_Raise]
  first
    | refine wpAny_bind (wpAny_standAt (raiseStmt_madeI (C := C) (nm := nm) (q := q) (N := N) (bs := bs) (bm := bm) (hdct := hdct) (sn := sn) (sub := sub) (ab := ab) (col := col) (dd := dd) (k0 := k0) (k1 := k1) (k2 := k2) (k3 := k3) (k5 := k5) (newId := newId) hbase hh (wpAny_bind (wpAny_mono (wpAny_Call_ofName (wpAny_mono h (fun f s₁ h₁ => ?_) fun _ _ x => x)) (fun v s₃ h₃ => wpAny_bind (wpAny_standAt (wpAny_pure h₃))) fun _ _ x => x))))
    | (simp only [evalOpt, Option.map]; refine wpAny_bind (wpAny_standAt (raiseStmt_madeI (C := C) (nm := nm) (q := q) (N := N) (bs := bs) (bm := bm) (hdct := hdct) (sn := sn) (sub := sub) (ab := ab) (col := col) (dd := dd) (k0 := k0) (k1 := k1) (k2 := k2) (k3 := k3) (k5 := k5) (newId := newId) hbase hh (wpAny_bind (wpAny_mono (wpAny_Call_ofName (wpAny_mono h (fun f s₁ h₁ => ?_) fun _ _ x => x)) (fun v s₃ h₃ => wpAny_bind (wpAny_standAt (wpAny_pure h₃))) fun _ _ x => x)))))
  obtain ⟨rfl, h₁⟩ := h₁
  unfold callWith
  refine wpAny_bind (wpAny_holding (wpAny_mono h₁ (fun a s₂ h₂ => wpAny_bind (wpAny_standAt ?_)) fun _ _ x => x))
  obtain ⟨apos, akw⟩ := a
  obtain ⟨hkw, hlen, hC, hX, T, h₂⟩ := h₂
  obtain rfl : akw = [] := hkw
  obtain ⟨hp, g, d, tk, os⟩ := s₂
  simp only [hplain]
  refine wpAny_bind (wpAny_keeperOf_exc hC ?_)
  refine wpAny_bind (call_excI (hrest := hlen) F T hX hC hi hf fun h' e hm hz => wpAny_mono (h₂ h' e hm hz) (fun r s' hr => ⟨hr.1, wpAny_bind (wpAny_holding (wpAny_point (wpAny_pure ?_)))⟩) fun _ _ z => z)
  obtain ⟨_, ⟨t, dx, ho⟩, hC', hE⟩ := hr
  exact ⟨e, t, dx, rfl, hC', ho, hE⟩
end
/-! ### its attribute is stored -/
section
open PySem.W
variable {prog : Program} {w : World} {A : Around} {E : Value → Shared → Prop} {s : Shared} {K : Frag}
theorem set_exc {x C aH : Addr} {ox : Obj} {vs : Array Value} {name : Str} {v : Value} {cd : ClassData} {Q : Unit → Shared → Prop} (X : K.In s.heap) (hx : s.heap.get? x = some ox) (hc : ox.cls = .ref C) (hdx : ox.dict = none) (hd : ox.data = .fields vs)
    (hs : findIn K (.ref C) "__setattr__" = some (some (.builtin "object.__setattr__"))) (hcd : clsIn K C = some cd) (hmro : cd.mro = .ref C :: .ref aH :: bmV) (hh : cd.hasDict = true) (hn : findIn K (.ref C) name = some none)
    (hq : ∀ h' tk', h'.get? x = some { ox with dict := some s.heap.objs.size } → h'.Ns1 s.heap.objs.size (fun y => if y = name then some v else none) → (∀ b o, b ≠ x → s.heap.get? b = some o → h'.get? b = some o) → Q () { s with heap := h', toks := tk' }) :
    wpAny (model prog w) A (setAttr (.ref x) name v) Q E s := by
  have I : InstAt s.heap x ox C none := ⟨hx, hc, by unfold notCls; rw [hd], by rw [hdx]; trivial⟩
  refine set_plain X I hs ?_
  have SF := PySem.F.store_object
  have hm : Looks (model prog w) s.heap (mroOf (.ref C)) cd.mro := (looks_clsIn X hcd).andThen .now
  have ty := I.type (M := model prog w)
  have sub : Looks (model prog w) s.heap (isInstance (.ref x) (.type "object")) true := ty.andThen (looks_mroIn X (by unfold mroIn; rw [hcd, Option.bind_some, hmro]; rfl))
  refine codeAny_call_builtin SF.slot.plain SF.entry (@check_slot (model prog w) _ _ { s with toks := s.toks + 1 } "object.__setattr__" "object" "__setattr__" (.ref x) [.str name s.toks, v] [] _ SF.kind SF.split sub (SF.args (.ref x) (.str name s.toks) v) ?_)
  rw [osa_eq, refuse_eq]
  refine wpAny_bind (wpAny_bind (ty.here (s := { s with toks := s.toks + 1 }) (wpAny_bind (hm.here (s := { s with toks := s.toks + 1 }) ?_))))
  rw [hmro, refuseLoop_ref, refuseLoop_ref, PySem.F.store_ValueError.passes]
  refine wpAny_pure (wpAny_bind (ty.here (s := { s with toks := s.toks + 1 }) (wpAny_bind ((looks_findIn X hn).here (s := { s with toks := s.toks + 1 }) (wpAny_bind (wpAny_pure ?_))))))
  have hxs : x ≠ s.heap.objs.size := Nat.ne_of_lt (Heap.lt_size hx)
  have hx₁ : (s.heap.push { cls := .type "dict", data := .dict #[] }).get? x = some ox := Heap.get?_push_of_some _ hx
  show wpAny _ _ (Builtin.ObjectAttr.storeInOwnDict (.ref x) (.ref C) (.str name s.toks) name v false) _ _ _
  unfold Builtin.ObjectAttr.storeInOwnDict Builtin.ObjectAttr.ownDictForStores instanceDict
  refine wpAny_bind (wpAny_pure (wpAny_bind (wpAny_bind (wpAny_loadPart (s := { s with toks := s.toks + 1 }) hx ?_))))
  rw [hc]
  refine wpAny_bind ((looks_clsIn X hcd).here (s := { s with toks := s.toks + 1 }) ?_)
  rw [hh]
  dsimp only
  rw [hdx, if_neg (by decide)]
  dsimp only
  rw [if_neg (by simp [typeHasDict]), hd]
  dsimp only
  refine wpAny_bind (wpAny_alloc' ?_)
  refine wpAny_bind (wpAny_update' hx₁ ?_)
  refine wpAny_pure ?_
  have hgd : ((s.heap.push { cls := .type "dict", data := .dict #[] }).update x fun o => { cls := o.cls, dict := some s.heap.objs.size, data := o.data, slots := o.slots }).get? s.heap.objs.size = some { cls := .type "dict", data := .dict #[] } :=
    (Heap.get?_update_ne _ _ _ _ hxs.symm).trans (Heap.get?_push_at rfl rfl)
  have hnd : ((s.heap.push { cls := .type "dict", data := .dict #[] }).update x fun o => { cls := o.cls, dict := some s.heap.objs.size, data := o.data, slots := o.slots }).Ns s.heap.objs.size (fun _ => none) :=
    ⟨_, #[], _, hgd, rfl, fun e he => absurd he (by simp), fun _ => rfl⟩
  show wpAny _ _ (Builtin.ObjectAttr.storeInDict s.heap.objs.size (.str name s.toks) name v) _ _ _
  unfold Builtin.ObjectAttr.storeInDict Builtin.ObjectAttr.newKeyGuard
  refine wpAny_bind (wpAny_pure (wpAny_bind (wpAny_nsSet1 (Heap.Ns1.of_empty hnd) fun h' hn' hs => ?_)))
  obtain ⟨oD, esD, epD, hoD, hdD, hcD⟩ := hn'.count (Within.cons name v Within.nil)
  refine wpAny_bind (wpAny_lookBehind hoD (by rw [hdD]; exact pastItsLine_dict (Nat.le_trans hcD (by rw [List.length_cons, List.length_nil, sizeLine_eq]; omega))) ?_)
  refine wpAny_pure (hq h' _ ?_ hn' (fun b ob hbx hb => ?_))
  · refine (hs.2 x hxs).trans (Heap.get?_update_self _ hx₁ ?_)
    have hfr := (Heap.get?_some_iff.mp hx).2
    obtain ⟨oc, od, odt, osl⟩ := ox
    cases odt <;> first | rfl | exact hfr
  · exact (hs.2 b (Nat.ne_of_lt (Heap.lt_size hb))).trans ((Heap.get?_update_ne _ _ _ _ hbx).trans (Heap.get?_push_of_some _ hb))
end
end L2

set_option Elab.async false
set_option linter.all false
set_option maxRecDepth 100000
set_option maxHeartbeats 4000000
namespace L2
open PySem PySem.Spec PyProof.Rows
/-! ### an exception that is being made -/
def ExNew (e : Addr) (cls : Value) (dx : Option Addr) (h : Heap) : Prop := ∃ t : Addr, h.get? e = some { cls := cls, dict := dx, data := .fields #[.ref t, .none, .none, .none, .bool false, .none] }
abbrev exN (e : Addr) (cls : Value) (dx : Option Addr) : HO := .ext (ExNew e cls dx)
theorem exN_ok {P : Program} {w : World} {H : Hp} {h : Heap} {e : Addr} {cls : Value} {dx : Option Addr} (x : ExNew e cls dx h) : ObjOk P w H h e (exN e cls dx) := by
  obtain ⟨t, ht⟩ := id x
  exact ⟨x, ⟨_, ht⟩, fun h1 h2 ⟨t', e1⟩ k => ⟨t', k _ e1⟩⟩
/-- what the written part knows of a class C under H (HostError) with __init__ at f, which stores the attribute fld -/
structure IniK (K : PySem.W.Frag) (C aH f : Addr) (fld : Str) : Prop where
  ob : ∃ (nm q : Str) (N : Addr) (bs : List Value) (sn : List Str) (sub : List Value) (ab : Bool) (col : Option Bool) (dd : Option Addr) (k0 k1 k2 k3 k5 : Option Value), K.lookup C = some (excClassObj nm q C N bs (.ref aH :: bmV) true sn sub ab col dd k0 k1 k2 k3 k5 newV)
  tl : ∀ h : Heap, K.In h → OwnTail h bmV (.ref aH :: bmV)
  init : PySem.W.findIn K (.ref C) "__init__" = some (some (.ref f))
  fn : PySem.W.typeIn K (.ref f) = some (.type "function")
  sa : PySem.W.findIn K (.ref C) "__setattr__" = some (some (.builtin "object.__setattr__"))
  nf : PySem.W.findIn K (.ref C) fld = some none
section
variable {X : Cx} {K : PySem.W.Frag}
@[irreducible] def rSetX (C : Addr) (fld : Str) (e : Addr) (y : V) (H : Hp) (R : Hp → Prop) : Prop := H e = some (exN e (.ref C) none) ∧ ∀ d H', H d = none → d ≠ e → Chg e H H' → H' e = some (exN e (.ref C) (some d)) → H' d = some (.xd [(fld, y)]) → R H'
def sFldX (C : Addr) (fld : Str) (ta tv : TE) : TS := fun D σ H => tv σ H fun y H1 => ta σ H1 fun x H2 => match x with
  | .ref e => rSetX C fld e y H2 (fun H' => D.nx σ H')
  | _ => False
theorem setX_rd {C : Addr} {fld : Str} {e : Addr} {y : V} {H : Hp} {R : Hp → Prop} (h : H e = some (exN e (.ref C) none)) (q : ∀ d H', H d = none → d ≠ e → Chg e H H' → H' e = some (exN e (.ref C) (some d)) → H' d = some (.xd [(fld, y)]) → R H') : rSetX C fld e y H R := by unfold rSetX; exact ⟨h, q⟩
theorem psFldX {C aH f : Addr} {fld : Str} {o value : Expr} {ta tv : TE} {pos pos' : Pos} (hK : X.K = K) (Z : IniK K C aH f fld) (ha : PE X o ta) (hv : PE X value tv) (hs : swapsWith value (some (.Attribute o fld pos')) pos.line X.env = pure false := by rfl) : PS X (.Assign [.Attribute o fld pos'] value pos) (sFldX C fld ta tv) := by
  subst hK
  intro pins s σ H D I h
  refine plainObj_wpAny_Assign_Attribute (thn (hv pins s σ H _ I h) fun u s1 ⟨y, H1, I1, ry, q⟩ => thn (ha pins s1 σ H1 _ I1 q) fun ov s2 ⟨x, H2, I2, rx, q2⟩ => ?_) hs
  dsimp only at q2
  split at q2
  case h_2 => exact q2.elim
  rename_i e
  obtain rfl : ov = Value.ref e := rx
  unfold rSetX at q2
  obtain ⟨he, q2⟩ := q2
  obtain ⟨⟨t, ht⟩, _, _⟩ := (show ObjOk X.prog X.w H2 s2.heap e (exN e (.ref C) none) from I2.hok e _ he)
  obtain ⟨nm, qn, N, bs, sn, sub, ab, col, dd, k0, k1, k2, k3, k5, lk⟩ := Z.ob
  have hcd : PySem.W.clsIn X.K C = some { name := nm, bases := bs, mro := Value.ref C :: .ref aH :: bmV, ns := N, qualname := qn, hasDict := true, slotNames := sn, subclasses := sub, abstract := ab, collection := col } := by
    unfold PySem.W.clsIn; rw [lk]
  refine set_exc I2.kIn ht rfl rfl rfl Z.sa hcd rfl rfl Z.nf fun h' tk' hx' hn' hk => ?_
  have hf : H2 s2.heap.objs.size = none := I2.hok.fresh (Nat.le_refl _)
  have hne : s2.heap.objs.size ≠ e := Nat.ne_of_gt (Heap.lt_size ht)
  have e1 : (h'.update e fun _ => { cls := .ref C, data := .fields #[.ref t, .none, .none, .none, .bool false, .none] }).get? e = some { cls := .ref C, data := .fields #[.ref t, .none, .none, .none, .bool false, .none] } := Heap.get?_update_self _ hx' rfl
  have k1 : ∀ b u, s2.heap.get? b = some u → (h'.update e fun _ => { cls := .ref C, data := .fields #[.ref t, .none, .none, .none, .bool false, .none] }).get? b = some u := fun b u hb => by
    by_cases hbe : b = e
    · subst hbe
      rw [e1]; exact ht.symm.trans hb
    · rw [Heap.get?_update_other _ _ (Ne.symm hbe)]; exact hk b u hbe hb
  have I3 := I2.laid (a := s2.heap.objs.size) (o := .xd [(fld, y)]) (h' := h'.update e fun _ => { cls := .ref C, data := .fields #[.ref t, .none, .none, .none, .bool false, .none] }) (t' := tk') k1 (Nat.le_refl _)
    ⟨_, hn'.at (fun o q => by rw [Heap.get?_update_other _ _ (Ne.symm hne)]; exact q), fun g => by
      by_cases hg : g = fld
      · subst hg
        have hb : (g == g) = true := by simp
        show RelO (List.lookup g [(g, y)]) (if g = g then some u else none)
        rw [if_pos rfl, show List.lookup g [(g, y)] = some y by simp only [List.lookup, hb]]; exact ry
      · have hb : (g == fld) = false := beq_eq_false_iff_ne.mpr hg
        show RelO (List.lookup g [(fld, y)]) (if g = fld then some u else none)
        rw [if_neg hg, show List.lookup g [(fld, y)] = none by simp only [List.lookup, hb]]; exact True.intro⟩
  have heu : upd H2 s2.heap.objs.size (.xd [(fld, y)]) e = some (exN e (.ref C) none) := by rw [upd_ne (Ne.symm hne)]; exact he
  have I4 := I3.write (x := e) (e := e) (o := exN e (.ref C) (some s2.heap.objs.size)) (h' := h') (t' := tk') (by rw [heu]; exact True.intro) (.inl rfl) (fun b u hb z => by
    have z : (h'.update e fun _ => { cls := .ref C, data := .fields #[.ref t, .none, .none, .none, .bool false, .none] }).get? b = some u := z
    rw [Heap.get?_update_other _ _ (Ne.symm hb)] at z; exact z) ⟨_, hx'⟩ (exN_ok ⟨t, hx'⟩)
  exact ⟨σ, _, I4, q2 _ _ hf hne (fun b o hb z => by rw [upd_ne hb, upd_ne (ne_of_none z hf)]; exact z) upd_same (by rw [upd_ne hne, upd_same])⟩
/-- what an __init__ that stores its one value promises -/
@[irreducible] def sp_init (C : Addr) (fld : Str) : Sp := fun vs H Q _ => ∃ (e : Addr) (v : V), vs = [.ref e, v] ∧ H e = some (exN e (.ref C) none) ∧ ∀ d H', H d = none → d ≠ e → Chg e H H' → H' e = some (exN e (.ref C) (some d)) → H' d = some (.xd [(fld, v)]) → Q .non H'
/-! ### it is raised -/
def hid (e : Addr) (H : Hp) : Hp := fun b => if b = e then none else H b
theorem hid_ne {e b : Addr} {H : Hp} (h : b ≠ e) : hid e H b = H b := by unfold hid; rw [if_neg h]
theorem hid_at {e : Addr} {H : Hp} : hid e H e = none := by unfold hid; rw [if_pos rfl]
theorem hid_of {e b : Addr} {H : Hp} {o : HO} (h : hid e H b = some o) : b ≠ e ∧ H b = some o := by
  by_cases z : b = e
  · subst z; rw [hid_at] at h; cases h
  · rw [hid_ne z] at h; exact ⟨z, h⟩
theorem hid_none {e b : Addr} {H : Hp} (h : H b = none) : hid e H b = none := by
  by_cases z : b = e
  · subst z; exact hid_at
  · rw [hid_ne z]; exact h
section
variable {pins : List (Addr × Obj)} {σ : St} {H : Hp} {s : Shared} {e : Addr} {φ : Heap → Prop}
theorem HOk.hid {P : Program} {w : World} {h h' : Heap} (x : HOk P w H h) (he : H e = some (.ext φ)) (k : ∀ b u, b ≠ e → (∃ o, H b = some o) → h.get? b = some u → h'.get? b = some u) : HOk P w (L2.hid e H) h' := fun a o ha => by
  obtain ⟨hne, ha⟩ := hid_of ha
  have n1 : ∀ b, H b = some (.own a) → b ≠ e := fun b hb z => by rw [z, he] at hb; cases hb
  refine (x a o ha).stay (fun b u hb hu => ?_) (fun b hb => by rw [hid_ne (n1 b hb)]; exact hb) fun b xs hb => by
    rw [hid_ne fun z => by rw [z, he] at hb; cases hb]; exact hb
  rcases hb with rfl | hb
  · exact k _ _ hne ⟨_, ha⟩ hu
  · exact k _ _ (n1 b hb) ⟨_, hb⟩ hu
theorem Inv.hid (I : Inv X pins σ H s) (he : H e = some (.ext φ)) : Inv X pins σ (L2.hid e H) s := by
  refine ⟨I.ok, I.os, I.bare, ⟨I.base.keep, I.base.slot, fun b o h1 h2 h3 => hid_none (I.base.free b o h1 h2 h3), I.base.there, fun b xs q => ?_, fun b o u q => ?_, fun b ps q => ?_⟩, I.loc, I.cell, hid_none I.free, fun x c h => hid_none (I.freeC x c h), fun p hp => ?_, I.hok.hid he fun _ _ _ _ h => h, I.len⟩
  · have z := I.base.tups b xs q
    rw [hid_ne fun y => by rw [y, he] at z; cases z]; exact z
  · have z := I.base.frzs b o u q
    rw [hid_ne fun y => by rw [y, he] at z; cases z]; exact z
  · obtain ⟨more, z⟩ := I.base.tbls b ps q
    exact ⟨more, by rw [hid_ne fun y => by rw [y, he] at z; cases z]; exact z⟩
  · obtain ⟨a1, a2, a3, a4, a5⟩ := I.pin p hp
    exact ⟨a1, hid_none a2, a3, a4, a5⟩
theorem FlyIn.of_init {cls : Value} {dx : Option Addr} (I : Inv X pins σ H s) (he : H e = some (exN e cls dx)) (hen : ∀ o, X.s₀.heap.get? e = some o → e ∈ X.ex) : FlyIn X pins σ (L2.hid e H) (PySem.W.hideAll s.heap (e :: frs X.stack)) e cls dx s := by
  obtain ⟨⟨t, ht⟩, _, _⟩ := (show ObjOk X.prog X.w H s.heap e (exN e cls dx) from I.hok e _ he)
  refine ⟨I.hid he, I.hok.hid he fun b u hb hh hu => PySem.W.hideAll_get _ hu ?_, ⟨fun b o hb => PySem.W.of_hideAll _ hb, ?_, ?_, ?_⟩, fun b o e0 n h1 h2 => ?_, hen⟩
  · intro hm
    obtain ⟨o, hh⟩ := hh
    rcases List.mem_cons.mp hm with z | hm
    · exact hb z
    · rw [I.stkFree b hm] at hh; cases hh
  · exact PySem.W.hideAll_none _ List.mem_cons_self
  · refine PySem.W.funFrames_hide I.stack fun env hv a hf => ?_
    exact List.mem_cons_of_mem _ (List.mem_filterMap.mpr ⟨env, hv, hf⟩)
  · exact ⟨_, _, ht, rfl, rfl, rfl, by simp, .inl rfl, .inl rfl⟩
  · refine PySem.W.hideAll_get _ (I.base.keep b o e0 n h1 h2) fun hm => ?_
    rcases List.mem_cons.mp hm with rfl | hm
    · exact h2 (hen _ e0)
    · exact not_frame I e0 h1 hm
end
@[irreducible] def rRaiseI (C : Addr) (fld : Str) (E : XK) (v : V) (H : Hp) : Prop := ∀ d H', H d = none → Same H H' → H' d = some (.xd [(fld, v)]) → E (.ref C) (some d) H'
def qRaiseI (C : Addr) (fld : Str) (E : XK) (t : TE) : TS := fun _ σ H => t σ H fun v H1 => rRaiseI C fld E v H1
theorem raiseI_rd {C : Addr} {fld : Str} {E : XK} {v : V} {H : Hp} (q : ∀ d H', H d = none → Same H H' → H' d = some (.xd [(fld, v)]) → E (.ref C) (some d) H') : rRaiseI C fld E v H := by unfold rRaiseI; exact q
theorem psRaiseI {C aH f : Addr} {fld pn x : Str} {fd : FuncData} {k : Nat} {E : XK} {e₀ : Expr} {te : TE} {np cpos pos : Pos} (Z : IniK X.K C aH f fld) (hm : X.mg x = some (.ref C)) (Fi : FnOk X.prog X.w X.K X.mg X.base CX0 k f fd ["self", pn] (sp_init C fld)) (hb : Binds X.K fd ["self", pn] []) (hr : Room (k + 1) X.A) (hc : X.calm = true) (hout : XOut X E) (he0 : PE X e₀ te)
    (hg : Gl X x := by rfl) (hd : (x == ("__debug__" : Str)) = false := by decide) (he : starEach [e₀] X.env = (false, eval e₀ X.env) :: starEach [] X.env := by rfl) (hpl : (backTo cpos (starEach [] X.env)).any (·.1) = false := by rfl) :
    PS X (.Raise (some (.Call (.Name x np) [e₀] [] cpos)) none pos) (qRaiseI C fld E te) := by
  intro pins s σ H D I h
  obtain ⟨nm, qn, N, bs, sn, sub, ab, col, dd, k0, k1, k2, k3, k5, lk⟩ := Z.ob
  refine raise_excI (K := X.K) (C := C) (nm := nm) (q := qn) (N := N) (bs := bs) (bm := .ref aH :: bmV) (hdct := true) (sn := sn) (sub := sub) (ab := ab) (col := col) (dd := dd) (k0 := k0) (k1 := k1) (k2 := k2) (k3 := k3) (k5 := k5) PySem.F.excBase_ValueError
    (by rw [List.contains_cons, show List.contains bmV (Value.type "BaseException") = true by decide +kernel, Bool.or_true]) (I.ok.hd hc) (by rw [he]; show (false || (backTo cpos (starEach [] X.env)).any (·.1)) = false; rw [hpl]; rfl) Z.init Z.fn (ld_glob I hg hm ⟨rfl, ?_⟩ hd)
  have hA := pa_cons he0 (pa_nil) he cpos pins s σ H (fun vs H1 => ∃ v, vs = [v] ∧ rRaiseI C fld E v H1) I (by
    show te σ H fun v H1 => ∃ v', [v] = [v'] ∧ rRaiseI C fld E v' H1
    have e : (fun (v : V) (H1 : Hp) => ∃ v', [v] = [v'] ∧ rRaiseI C fld E v' H1) = fun v H1 => rRaiseI C fld E v H1 := by
      funext v H1
      apply propext
      exact ⟨fun ⟨v', e1, e2⟩ => by cases e1; exact e2, fun e2 => ⟨v, rfl, e2⟩⟩
    rw [e]; exact h)
  rw [he] at hA ⊢
  refine Calls.evalArgs_plain (thn hA fun us s2 ⟨vs, H1, I1, r, v, ev, q⟩ => ?_)
  subst ev
  obtain ⟨u, rfl, ru⟩ := r.one
  refine ⟨rfl, by show 1 ≤ sizeLine; decide, I1.kIn _ _ lk, I1.kIn, Z.tl _ I1.kIn, fun h' e m hz => ?_⟩
  obtain ⟨t, ht, _, _⟩ := m.there
  have hfe : H1 e = none := I1.hok.fresh hz
  have I2 := I1.laid (a := e) (o := exN e (.ref C) none) (h' := h') (t' := s2.toks) m.keeps hz (exN_ok ⟨t, ht⟩)
  have hsp : sp_init C fld [.ref e, v] (upd H1 e (exN e (.ref C) none)) (fun w H' => w = .non ∧ ∃ d, H1 d = none ∧ d ≠ e ∧ Chg e (upd H1 e (exN e (.ref C) none)) H' ∧ H' e = some (exN e (.ref C) (some d)) ∧ H' d = some (.xd [(fld, v)])) E := by
    unfold sp_init
    refine ⟨e, v, rfl, upd_same, fun d H' hd hne hch h1 h2 => ⟨rfl, d, ?_, hne, hch, h1, h2⟩⟩
    rw [upd_ne hne] at hd; exact hd
  refine wpAny_call (codeAny_mono (Fi.run _ X.stack _ _ ⟨[.ref e, u], []⟩ [.ref e, u] [.ref e, v] _ _ (hr.make C [u] []) (I2.env0.make C [u] []) (hb _ [.ref e, u] I2.kIn rfl) (.cons rfl (.cons ru .nil)) hsp) fun r s' hq' => ?_)
  cases r with
  | error e => exact False.elim hq'
  | ok fl =>
    cases fl with
    | ret u' =>
      obtain ⟨v', H3, I3, rv, rfl, d, hd1, hd2, hch, h3, h4⟩ := I2.after hq'
      cases (show u' = Value.none from rv)
      obtain ⟨⟨t', ht'⟩, _, _⟩ := (show ObjOk X.prog X.w H3 s'.heap e (exN e (.ref C) (some d)) from I3.hok e _ h3)
      refine ⟨rfl, ⟨t', some d, ht'⟩, I3.kIn _ _ lk, ?_⟩
      have hen : ∀ o, X.s₀.heap.get? e = some o → e ∈ X.ex := fun o z => by
        apply Classical.byContradiction
        intro hx
        obtain ⟨o', k⟩ := I1.base.there e o z hx
        rw [m.new] at k
        cases k
      unfold rRaiseI at q
      refine hout _ _ _ _ _ _ _ _ (FlyIn.of_init I3 h3 hen) (q d _ hd1 (fun b o hb => ?_) (by rw [hid_ne hd2]; exact h4))
      have nb := ne_of_none hb hfe
      rw [hid_ne nb]
      exact hch b o nb (by rw [upd_ne nb]; exact hb)
    | next => exact False.elim hq'
    | brk => exact False.elim hq'
    | cont => exact False.elim hq'
end
end L2

set_option Elab.async false
set_option linter.all false
set_option maxRecDepth 100000
set_option maxHeartbeats 4000000
namespace L2
open PySem PySem.Spec PyProof.Rows
/-! ### a caught exception with a dict: its class, its attribute -/
def ExcIsD (e D d : Addr) (h : Heap) : Prop := ExcIs e (.ref D) (some d) h ∧ ∃ od, h.get? d = some od
section
open PySem.W PySem.Calls
theorem exc_classD {prog : Program} {w : World} {A : Around} {E : Value → Shared → Prop} {K : Frag} {D e dx : Addr} {h : Heap} {g d t os} {Q : Option Value → Shared → Prop} (X : K.In h) (x : ExcIsD e D dx h) (k : ExcK K D)
    (hq : Q (some (.ref D)) ⟨h, g, d, t + 1, os⟩) : wpAny (model prog w) A (getAttr? (.ref e) "__class__") Q E ⟨h, g, d, t, os⟩ := by
  obtain ⟨⟨oe, vs, he, hc, hdx, hd⟩, od, hod⟩ := x
  obtain ⟨h1, h2, h3, h4, h5⟩ := k
  have L0 : Looks (model prog w) h (typeOf (.ref e)) (.ref D) := hc ▸ (Looks.ld he).andThen .now
  have L1 := looks_findIn (M := model prog w) X h1
  have L2 := looks_findIn (M := model prog w) X h2
  have L3 := looks_findIn (M := model prog w) X h3
  have hx : (onTheHeap (Value.ref D) && Value.builtin "BaseException.__getattribute__" == Value.builtin "object.__getattribute__") = false := by
    have z : (Value.builtin "BaseException.__getattribute__" == Value.builtin "object.__getattribute__") = false := by decide +kernel
    rw [z]; rfl
  have I : InstAt h e oe D (some od) := ⟨he, hc, by unfold notCls; rw [hd], by rw [hdx]; exact hod⟩
  have L4 : Looks (model prog w) h (isInstance (.ref e) (.type "BaseException")) true := L0.andThen (looks_subIn X h4)
  have FB := PySem.F.attrBase_ValueError
  have f3 := FB.ga.bind (.ref e)
  have kd : builtinKind "BaseException.__getattribute__" = some .slot := by decide +kernel
  have sid : splitId "BaseException.__getattribute__" = some ("BaseException", "__getattribute__") := by decide +kernel
  have aok := PySem.F.args_bexc_ga (.ref e) (.str "__class__" t)
  have f5 := KF.type_class
  have f6 := PySem.F.slot_gs_get.lookup
  have f7 := PySem.F.slot_gs_set.lookup
  unfold getAttr? getAttrBy? getAttrBy
  refine wpAny_bind (wpAny_mkText (wpAny_bind (wpAny_attempt (wpAny_holding (wpAny_bind (L0.at (wpAny_bind (L1.at ?_))))))))
  dsimp only
  rw [if_neg (by rw [hx]; decide)]
  unfold getAttrByItsOwn hookBefore
  repeat (any_goals (first | assumption | with_reducible refine L0.at ?_ | with_reducible refine L1.at ?_ | with_reducible refine L2.at ?_ | with_reducible refine L3.at ?_ | wp_step))
  refine codeAny_call_builtin FB.ga.plain PySem.F.entry_bexc_ga ?_
  simp only [checkBuiltinCall, kd, sid]
  refine wpAny_bind (L4.at ?_)
  repeat (any_goals (first | assumption | with_reducible refine L0.at ?_ | with_reducible refine L1.at ?_ | with_reducible refine L2.at ?_ | with_reducible refine L3.at ?_ | wp_step))
  refine class_get (ox := oe) (od := some od) X I h5 ?_
  repeat (any_goals (first | assumption | wp_step))
theorem kitx_excD {K : Frag} {e D dx : Addr} (k : ExcK K D) (hcl : (clsIn K D).isSome = true) : KitX K (.ref e) (.ref D) (ExcIsD e D dx) where
  ty := fun M h _ p => by
    obtain ⟨⟨oe, vs, he, hc, _⟩, _⟩ := p
    exact hc ▸ (Looks.ld he).andThen .now
  it := fun M h X p => by
    obtain ⟨cd, hcd⟩ := Option.isSome_iff_exists.mp hcl
    unfold clsIn at hcd
    split at hcd
    · rename_i ho
      intro A' Q' E' s' kk q
      unfold isType loadHead
      exact wpAny_bind (wpAny_loadPart (kk _ _ (X _ _ ho)) (wpAny_pure q))
    · cases hcd
  ne := fun h tp dd its n sl X htp => by
    refine Bool.eq_false_iff.mpr fun q => ?_
    have z : D = tp := Value.ref.inj (beq_iff_eq.mp q)
    subst z
    obtain ⟨cd, hcd⟩ := Option.isSome_iff_exists.mp hcl
    unfold clsIn at hcd
    split at hcd
    · rename_i ho
      cases (X _ _ ho).symm.trans htp
    · cases hcd
  ca := fun {prog w A E Q s} X p q => by
    obtain ⟨hh, g, d, t, os⟩ := s
    exact exc_classD X p k q
theorem exc_attr {prog : Program} {w : World} {A : Around} {E : Value → Shared → Prop} {K : Frag} {D e : Addr} {oe od : Obj} {vs : Array Value} {dx : Addr} {name : Str} {v : Value} {expr : Bool} {s : Shared} {Q : Value → Shared → Prop} (X : K.In s.heap) (he : s.heap.get? e = some oe) (hc : oe.cls = .ref D) (hdx : oe.dict = some dx) (hd : oe.data = .fields vs) (hod : s.heap.get? dx = some od) (k : ExcK K D)
    (hh : hasDictIn K D = true) (ha : findIn K (.ref D) name = some none) (hl : lookIn name od = some (some v)) (hv : handedIn v = true)
    (hq : Q v { s with toks := s.toks + 1 }) : wpAny (model prog w) A (getAttr (.ref e) name expr) Q E s := by
  obtain ⟨h, g, d, t, os⟩ := s
  obtain ⟨h1, h2, h3, h4, h5⟩ := k
  have L0 : Looks (model prog w) h (typeOf (.ref e)) (.ref D) := hc ▸ (Looks.ld he).andThen .now
  have L1 := looks_findIn (M := model prog w) X h1
  have L2 := looks_findIn (M := model prog w) X h2
  have hx : (onTheHeap (Value.ref D) && Value.builtin "BaseException.__getattribute__" == Value.builtin "object.__getattribute__") = false := by
    have z : (Value.builtin "BaseException.__getattribute__" == Value.builtin "object.__getattribute__") = false := by decide +kernel
    rw [z]; rfl
  have I : InstAt h e oe D (some od) := ⟨he, hc, by unfold notCls; rw [hd], by rw [hdx]; exact hod⟩
  have L5 := looks_find (M := model prog w) X I (findObj_own hh ha rfl hl)
  have L4 : Looks (model prog w) h (isInstance (.ref e) (.type "BaseException")) true := L0.andThen (looks_subIn X h4)
  have FB := PySem.F.attrBase_ValueError
  have f3 := FB.ga.bind (.ref e)
  have hx0 : (expr && onTheHeap (Value.builtin "BaseException.__getattribute__")) = false := by cases expr <;> rfl
  have kd : builtinKind "BaseException.__getattribute__" = some .slot := by decide +kernel
  have sid : splitId "BaseException.__getattribute__" = some ("BaseException", "__getattribute__") := by decide +kernel
  have aok := PySem.F.args_bexc_ga (.ref e) (.str name t)
  unfold getAttr getAttrBy
  refine wpAny_bind (wpAny_mkText (wpAny_holding (wpAny_bind (L0.at (wpAny_bind (L1.at ?_))))))
  dsimp only
  rw [if_neg (by rw [hx]; decide)]
  unfold getAttrByItsOwn hookBefore
  repeat (any_goals (first | assumption | with_reducible refine L0.at ?_ | with_reducible refine L1.at ?_ | with_reducible refine L2.at ?_ | wp_step))
  refine codeAny_call_builtin FB.ga.plain PySem.F.entry_bexc_ga ?_
  simp only [checkBuiltinCall, kd, sid]
  refine wpAny_bind (L4.at ?_)
  repeat (any_goals (first | assumption | with_reducible refine L0.at ?_ | with_reducible refine L1.at ?_ | with_reducible refine L2.at ?_ | with_reducible refine L5.at ?_ | wp_step))
  show wpAny _ _ (handedOut v) _ _ _
  rw [handedOut_of hv]
  exact wpAny_pure hq
end
section
variable {X : Cx} {K : PySem.W.Frag} {H : Hp} {Q : VK}
@[irreducible] def rIsiD (K : PySem.W.Frag) (x c : V) (H : Hp) (Q : VK) : Prop := rIsiX K x c H Q ∨ ∃ (ea D d : Addr) (fs : List (Str × V)) (b : Bool), x = .ref ea ∧ H ea = some (excO ea (.ref D) (some d)) ∧ H d = some (.xd fs) ∧ ExcK K D ∧ (PySem.W.clsIn K D).isSome = true ∧ (∀ cv, RelV c cv → PySem.W.kitOne K (.ref D) cv = some b) ∧ Q (.bl b) H
def rIsiMD (K : PySem.W.Frag) : List V → Hp → VK → Prop := fun xs H Q => match xs with
  | [x, c] => rIsiD K x c H Q
  | _ => False
theorem cIsiD (hK : X.K = K) : CallR X (.builtin "isinstance") (rIsiMD K) := by
  subst hK
  intro pins s σ H xs us Q I r h
  unfold rIsiMD at h
  split at h
  · unfold rIsiD at h
    rcases h with h | ⟨ea, D, d, fs, b, rfl, h1, h0, h2, h3, h4, h5⟩
    · exact cIsiX rfl pins s σ H _ us Q I r h
    · obtain ⟨u, w, rfl, r1, r2⟩ := vals2 r
      cases r1
      obtain ⟨p, _⟩ := I.hok ea _ h1
      obtain ⟨_, ⟨od, _, _, e0, _⟩, _⟩ := (show ObjOk X.prog X.w H s.heap d (.xd fs) from I.hok d _ h0)
      exact PySem.W.kia_one (kitx_excD h2 h3) I.kIn ⟨p, od, e0⟩ (h4 _ r2) (fun z => nomatch z) fun tk => ⟨.bl b, H, I.tok _, rfl, h5⟩
  · exact h.elim
theorem isiD_of {x c : V} (h : rIsiX K x c H Q) : rIsiD K x c H Q := by unfold rIsiD; exact .inl h
theorem isiDE_rd {ea D d C : Addr} {fs : List (Str × V)} {b : Bool} (h1 : H ea = some (excO ea (.ref D) (some d))) (h0 : H d = some (.xd fs)) (h2 : ExcK K D) (h3 : (PySem.W.clsIn K D).isSome = true) (e : PySem.W.kitOne K (.ref D) (.ref C) = some b) (q : Q (.bl b) H) : rIsiD K (.ref ea) (.ref C) H Q := by
  unfold rIsiD; exact .inr ⟨ea, D, d, fs, b, rfl, h1, h0, h2, h3, fun cv r => by cases r; exact e, q⟩
theorem isiDT_rd {ea D d : Addr} {fs : List (Str × V)} {n : String} {b : Bool} (h1 : H ea = some (excO ea (.ref D) (some d))) (h0 : H d = some (.xd fs)) (h2 : ExcK K D) (h3 : (PySem.W.clsIn K D).isSome = true) (e : PySem.W.kitOne K (.ref D) (.type n) = some b) (q : Q (.bl b) H) : rIsiD K (.ref ea) (.ty n) H Q := by
  unfold rIsiD; exact .inr ⟨ea, D, d, fs, b, rfl, h1, h0, h2, h3, fun cv r => by cases r; exact e, q⟩
/-! e.f of a caught exception -/
@[irreducible] def rFldE (K : PySem.W.Frag) (ea : Addr) (f : Str) (H : Hp) (Q : VK) : Prop := ∃ (D d : Addr) (fs : List (Str × V)) (v : V), H ea = some (excO ea (.ref D) (some d)) ∧ H d = some (.xd fs) ∧ fs.lookup f = some v ∧ ExcK K D ∧ PySem.W.hasDictIn K D = true ∧ PySem.W.findIn K (.ref D) f = some none ∧ Q v H
def qFldE (K : PySem.W.Frag) (te : TE) (f : Str) : TE := fun σ H Q => te σ H fun x H1 => match x with
  | .ref ea => rFldE K ea f H1 Q
  | _ => False
theorem peFldE {e : Expr} {te : TE} {f : Str} {pos : Pos} (hK : X.K = K) (he : PE X e te) (hb : attributeBase e f X.env (eval e X.env) = eval e X.env := by rfl) : PE X (.Attribute e f pos) (qFldE K te f) := by
  subst hK
  intro pins s σ H Q I h
  refine attr_of hb (thn (he pins s σ H _ I h) fun u s1 ⟨x, H1, I1, rx, q⟩ => ?_)
  dsimp only at q
  split at q
  case h_2 => exact q.elim
  rename_i ea
  obtain rfl : u = Value.ref ea := rx
  unfold rFldE at q
  obtain ⟨D, d, fs, v, h1, h2, h3, h4, h5, h6, q⟩ := q
  obtain ⟨⟨oe, vs, he, hc, hdx, hd⟩, _⟩ := I1.hok ea _ h1
  obtain ⟨mA, n, r⟩ := (show ObjOk X.prog X.w H1 s1.heap d (.xd fs) from I1.hok d _ h2)
  obtain ⟨od, hod, hl⟩ := lookIn_ns n
  obtain ⟨u, hu, ru⟩ := RelO.some_of (v := v) (o := mA f) (by rw [← h3]; exact r f)
  exact exc_attr I1.kIn he hc hdx hd hod h4 h5 h6 (by rw [hl, hu]) (handed_of ru) ⟨v, H1, I1.tok _, ru, q⟩
theorem fldE_rd {ea D d : Addr} {f : Str} {fs : List (Str × V)} {v : V} (h1 : H ea = some (excO ea (.ref D) (some d))) (h2 : H d = some (.xd fs)) (h3 : fs.lookup f = some v) (h4 : ExcK K D) (h5 : PySem.W.hasDictIn K D = true) (h6 : PySem.W.findIn K (.ref D) f = some none) (q : Q v H) : rFldE K ea f H Q := by
  unfold rFldE; exact ⟨D, d, fs, v, h1, h2, h3, h4, h5, h6, q⟩
end
end L2
namespace L2
open PySem PySem.Spec PyProof.Rows
/-! ### short words for a class with an __init__ -/
def IniF (K : PySem.W.Frag) (qual : Str) (st : Stmt) (f : Addr) (pn : Str) : Prop := ∃ fd, Fun K "__init__" qual st f fd ∧ Binds K fd ["self", pn] []
def IniOk (P : Program) (w : World) (K : PySem.W.Frag) (mg : Str → Option Value) (base : Heap) (C f : Addr) (fld : Str) : Prop := ∃ pn fd, FnOk P w K mg base CX0 1 f fd ["self", pn] (sp_init C fld) ∧ Binds K fd ["self", pn] []
theorem tail_self {K : PySem.W.Frag} {aH : Addr} {h : Heap} (X : K.In h) (q : PySem.W.excIn K aH bmV newV = true) : OwnTail h bmV (.ref aH :: bmV) := by
  refine PySem.W.tail_of_in X ?_
  unfold PySem.W.excIn at q
  split at q
  case h_2 => cases q
  rename_i dd cd sl ho
  split at q
  case h_2 => cases q
  simp only [Bool.and_eq_true, beq_iff_eq, Bool.not_eq_true'] at q
  obtain ⟨⟨⟨⟨⟨q1, q2⟩, q3⟩, q4⟩, q5⟩, q6⟩ := q
  unfold PySem.W.tailIn
  dsimp only
  rw [ho]
  dsimp only
  rw [q5, q6]
  have e : PySem.W.tailIn K bmV bmV = true := by unfold PySem.W.tailIn; rw [Bool.or_eq_true]; exact .inl (by simp)
  rw [e]
  simp
theorem psRaiseO {X : Cx} {C aH f : Addr} {fld x : Str} {E : XK} {e₀ : Expr} {te : TE} {np cpos pos : Pos} (Z : IniK X.K C aH f fld) (hm : X.mg x = some (.ref C)) (O : IniOk X.prog X.w X.K X.mg X.base C f fld) (hr : Room 2 X.A) (hc : X.calm = true) (hout : XOut X E) (he0 : PE X e₀ te)
    (hg : Gl X x := by rfl) (hd : (x == ("__debug__" : Str)) = false := by decide) (he : starEach [e₀] X.env = (false, eval e₀ X.env) :: starEach [] X.env := by rfl) (hpl : (backTo cpos (starEach [] X.env)).any (·.1) = false := by rfl) :
    PS X (.Raise (some (.Call (.Name x np) [e₀] [] cpos)) none pos) (qRaiseI C fld E te) := by
  obtain ⟨pn, fd, Fi, hb⟩ := O
  exact psRaiseI Z hm Fi hb hr hc hout he0 hg hd he hpl
end L2

set_option Elab.async false
set_option linter.all false
set_option maxRecDepth 100000
set_option maxHeartbeats 2000000
namespace L2
open PySem PySem.Spec PyProof.Rows
/-! ### comprehensions whose target is seen by an inner one: it is a cell -/
def OneCell (x0 : Str) (names : List (Str × NameKind)) : Prop := names.filter (fun y => y.2 == .cell) = [(x0, .cell)] ∧ names.lookup x0 = some .cell
theorem OneCell.only {x0 : Str} {names : List (Str × NameKind)} (h : OneCell x0 names) : ∀ y ∈ names, y.2 = .cell → y.1 = x0 := fun y hy hc => by
  have : y ∈ names.filter (fun y => y.2 == .cell) := List.mem_filter.mpr ⟨hy, by rw [hc]; rfl⟩
  rw [h.1] at this
  rw [List.mem_singleton.mp this]
section
variable {X : Cx} {pins : List (Addr × Obj)} {σ : St} {H : Hp} {s2 : Shared}
end
end L2

set_option Elab.async false
set_option linter.all false
set_option maxRecDepth 100000
set_option maxHeartbeats 1000000
namespace L2
open PySem PySem.Spec PyProof.Rows

/-! ### lists of pairs as tables -/
section
variable {κ : Type} [DecidableEq κ]
def valV (kvs : List (κ × V)) (k : κ) : Option V := (kvs.find? fun kv => decide (kv.1 = k)).map (·.2)
/-- in its place, or at the end -/
def putK (kvs : List (κ × V)) (k : κ) (v : V) : List (κ × V) :=
  if (kvs.any fun kv => decide (kv.1 = k)) = true then kvs.map (fun kv => if kv.1 = k then (kv.1, v) else kv) else kvs ++ [(k, v)]
theorem valV_pos {p : κ × V} {r : List (κ × V)} {k : κ} (e : p.1 = k) : valV (p :: r) k = some p.2 := by simp [valV, List.find?_cons, e]
theorem valV_neg {p : κ × V} {r : List (κ × V)} {k : κ} (e : ¬ p.1 = k) : valV (p :: r) k = valV r k := by simp [valV, List.find?_cons, e]
theorem RelO.getD {o : Option V} {u : Option Value} {d : V} {d' : Value} (r : RelO o u) (rd : RelV d d') : RelV (o.getD d) (u.getD d') := by
  cases o with
  | none => cases u with
    | none => exact rd
    | some _ => exact (show False from r).elim
  | some _ => cases u with
    | none => exact (show False from r).elim
    | some _ => exact r

/-- raw tables of the same keys -/
theorem KV.val {kvs : List (κ × V)} {vs : List (κ × Value)} (r : KV kvs vs) (k : κ) : RelO (valV kvs k) (valueAt vs k) := by
  unfold KV at r
  induction r with
  | nil => exact True.intro
  | @cons p q ps qs h t ih =>
    obtain ⟨h1, h2⟩ := h
    by_cases e : p.1 = k
    · have e' : q.1 = k := h1.symm.trans e
      have b : valueAt (q :: qs) k = some q.2 := by simp [valueAt, List.find?_cons, e']
      rw [valV_pos e, b]; exact h2
    · have e' : ¬ q.1 = k := fun z => e (h1.trans z)
      have b : valueAt (q :: qs) k = valueAt qs k := by simp [valueAt, List.find?_cons, e']
      rw [valV_neg e, b]; exact ih
theorem KV.any {kvs : List (κ × V)} {vs : List (κ × Value)} (r : KV kvs vs) (k : κ) : (kvs.any fun kv => decide (kv.1 = k)) = vs.any fun kv => decide (kv.1 = k) := by
  unfold KV at r
  induction r with
  | nil => rfl
  | cons h t ih => rw [List.any_cons, List.any_cons, ih, h.1]
theorem KV.keys {kvs : List (κ × V)} {vs : List (κ × Value)} (r : KV kvs vs) : kvs.map (·.1) = vs.map (·.1) := by
  unfold KV at r
  induction r with
  | nil => rfl
  | cons h t ih => rw [List.map_cons, List.map_cons, ih, h.1]
theorem KV.length {kvs : List (κ × V)} {vs : List (κ × Value)} (r : KV kvs vs) : kvs.length = vs.length := Paired.length r
end


/-! ### a tracked dict, its keys ints and texts or tuples of these -/
theorem kV_is {P : Program} {w : World} {k : Key} {u : Value} (r : RelV (kV k) u) : (mixKind P w).is k u = true := by
  cases k with
  | inl i => obtain ⟨t, e⟩ := (show ∃ t, u = Value.int i t from r); subst e; exact mixKind_int P w i t
  | inr x => obtain ⟨t, e⟩ := (show ∃ t, u = Value.str x t from r); subst e; exact mixKind_str P w x t
section
variable {P : Program} {w : World} {H : Hp} {h : Heap} {a : Addr}
theorem rd_of {u : HO} (ok : HOk P w H h) (e : Rd H a u) : ObjOk P w H h a u := e.ok ok
theorem dk_rd {kvs : List (Key × V)} (ok : HOk P w H h) (e : Rd H a (.dK kvs)) : kvs.length ≤ sizeLine ∧ (a == sysModules) = false ∧ ∃ vs, KV kvs vs ∧ h.DictOf (mixKind P w) a vs :=
  show ObjOk P w H h a (.dK kvs) from rd_of ok e
theorem dk_of {kvs : List (Key × V)} (ok : HOk P w H h) (e : H a = some (.dK kvs)) : kvs.length ≤ sizeLine ∧ (a == sysModules) = false ∧ ∃ vs, KV kvs vs ∧ h.DictOf (mixKind P w) a vs := dk_rd ok (.inl e)
end

/-- what the dict at a holds at the key y -/
def DGet (H : Hp) (a : Addr) (y : V) (r : Option V) : Prop :=
  (∃ kvs k, Rd H a (.dK kvs) ∧ y = kV k ∧ r = valV kvs k) ∨ ∃ kvs k b, Rd H a (.dT kvs) ∧ y = .ref b ∧ H b = some (.tup (k.map kV)) ∧ r = valV kvs k
/-- the heap behind a[y] = v -/
def DPut (H : Hp) (a : Addr) (y v : V) (H' : Hp) : Prop :=
  (∃ kvs k, H a = some (.dK kvs) ∧ y = kV k ∧ kvs.length < sizeLine ∧ H' = upd H a (.dK (putK kvs k v))) ∨
  ∃ kvs k b, H a = some (.dT kvs) ∧ y = .ref b ∧ H b = some (.tup (k.map kV)) ∧ kvs.length < sizeLine ∧ H' = upd H a (.dT (putK kvs k v))
theorem DGet.k {H : Hp} {a : Addr} {kvs : List (Key × V)} {k : Key} (e : H a = some (.dK kvs)) : DGet H a (kV k) (valV kvs k) := .inl ⟨kvs, k, .inl e, rfl, rfl⟩
theorem DGet.t {H : Hp} {a b : Addr} {kvs : List (List Key × V)} {k : List Key} (e : H a = some (.dT kvs)) (eb : H b = some (.tup (k.map kV))) : DGet H a (.ref b) (valV kvs k) := .inr ⟨kvs, k, b, .inl e, rfl, eb, rfl⟩
theorem DPut.k {H : Hp} {a : Addr} {kvs : List (Key × V)} {k : Key} {v : V} (e : H a = some (.dK kvs)) (hl : kvs.length < sizeLine) : DPut H a (kV k) v (upd H a (.dK (putK kvs k v))) := .inl ⟨kvs, k, e, rfl, hl, rfl⟩
theorem DPut.t {H : Hp} {a b : Addr} {kvs : List (List Key × V)} {k : List Key} {v : V} (e : H a = some (.dT kvs)) (eb : H b = some (.tup (k.map kV))) (hl : kvs.length < sizeLine) :
    DPut H a (.ref b) v (upd H a (.dT (putK kvs k v))) := .inr ⟨kvs, k, b, e, rfl, eb, hl, rfl⟩


section
variable {X : Cx} {pins : List (Addr × Obj)} {σ : St} {H : Hp} {s : Shared} {a : Addr} {y v : V} {u r : Value} {o : Option V} {A : Around} {E : Value → Shared → Prop}

end

section
variable {X : Cx} {pins : List (Addr × Obj)} {σ : St} {H : Hp} {s : Shared} {a : Addr} {kvs : List (Key × V)} {k : Key} {u : Value} {A : Around} {E : Value → Shared → Prop}
end


/-! ### readings and rules -/
section
variable {X : Cx} {o i e value : Expr} {pos pos' tpos : Pos} {td ty tv : TE}
end


/-! ### displays -/
section
variable {X : Cx} {pos : Pos}
end

/-! ### methods -/
/-- a method call o.m(e) of a built-in, with one argument: what must be seen of the text -/
structure M1 (X : Cx) (o : Expr) (m : Str) (apos : Pos) (e : Expr) (cpos : Pos) : Prop where
  base : attributeBase o m X.env (eval o X.env) = eval o X.env
  few : ((backTo cpos (starEach [e] X.env)).all (fun x => !x.1) && (backToKw cpos (keywordEach [] X.env)).all (fun x => x.1.isSome)
    && decide (([e] : List Expr).length + ([] : List Keyword).length + (if ([] : List Keyword).isEmpty then 0 else 1) < 30)) = true
  line : (apos.endLine == cpos.line) = true
  trees : backTo cpos (starEach [e] X.env) = [(false, eval e X.env)]
structure M2 (X : Cx) (o : Expr) (m : Str) (apos : Pos) (e f : Expr) (cpos : Pos) : Prop where
  base : attributeBase o m X.env (eval o X.env) = eval o X.env
  few : ((backTo cpos (starEach [e, f] X.env)).all (fun x => !x.1) && (backToKw cpos (keywordEach [] X.env)).all (fun x => x.1.isSome)
    && decide (([e, f] : List Expr).length + ([] : List Keyword).length + (if ([] : List Keyword).isEmpty then 0 else 1) < 30)) = true
  line : (apos.endLine == cpos.line) = true
  trees : backTo cpos (starEach [e, f] X.env) = [(false, eval e X.env), (false, eval f X.env)]

section
variable {X : Cx} {pins : List (Addr × Obj)} {σ : St} {H : Hp} {s : Shared} {a : Addr} {y d : V} {u r : Value} {o : Option V} {A : Around} {E : Value → Shared → Prop}
end

section
variable {X : Cx} {o e f : Expr} {apos cpos : Pos} {td ty tx : TE}
end

/-! ### dict(d): a copy -/
section
variable {X : Cx} {pins : List (Addr × Obj)} {σ : St} {H : Hp} {s : Shared} {a : Addr} {kvs : List (Key × V)} {A : Around} {E : Value → Shared → Prop}
end


section
variable {X : Cx} {pins : List (Addr × Obj)} {σ : St} {H : Hp} {s : Shared} {a : Addr} {y : V} {u : Value} {A : Around} {E : Value → Shared → Prop}
end
end L2
namespace L2
open PySem PySem.Spec PyProof.Rows
/-! ### a dict's pairs: keys that differ -/
section
variable {κ : Type} [DecidableEq κ]
end
end L2

set_option Elab.async false
set_option linter.all false
set_option maxRecDepth 100000
set_option maxHeartbeats 2000000
namespace L2
open PySem PySem.Spec PyProof.Rows
/-! ### a dict walked by its keys, whatever they are -/
/-- the dict at d with the entries es -/
def RawD (h : Heap) (d : Addr) (es : Array DictEntry) (ep : Nat) : Prop := ∃ o, h.get? d = some o ∧ o.ExactDict ∧ o.data = .dict es ep
theorem RawD.lt {h : Heap} {d : Addr} {es : Array DictEntry} {ep : Nat} (x : RawD h d es ep) : d < h.objs.size := let ⟨_, a, _⟩ := x; Heap.lt_size a
section
variable {prog : Program} {w : World} {A : Around} {E : Value → Shared → Prop} {s : Shared} {d it : Addr} {es : Array DictEntry} {ep : Nat}
end
end L2

set_option Elab.async false
set_option linter.all false
set_option maxRecDepth 100000
set_option maxHeartbeats 2000000
namespace L2
open PySem PySem.Spec PyProof.Rows PySem.W
/-! ### sorting by an order that is known: what is asked, what comes out -/
section
variable {lt : Nat → Nat → Bool} {n : Nat}
def KW {α : Type} (lt : Nat → Nat → Bool) (n : Nat) (Q : α → Prop) : KasT α → Prop
  | .ret a => Q a
  | .ask i j k => i < n ∧ j < n ∧ KW lt n Q (k (lt i j))
theorem KW.mono {α : Type} {Q Q' : α → Prop} (hq : ∀ a, Q a → Q' a) : ∀ {t : KasT α}, KW lt n Q t → KW lt n Q' t
  | .ret a, h => hq a h
  | .ask _ _ k, ⟨h1, h2, h3⟩ => ⟨h1, h2, KW.mono hq (t := k _) h3⟩
def Pm (n : Nat) (p : Array Nat) : Prop := p.toList.Perm (List.range n)
end
/-! ### list.sort -/
section
variable {prog : Program} {w : World} {A : Around} {E : Value → Shared → Prop} {s : Shared}
end
end L2

set_option Elab.async false
set_option linter.all false
set_option maxRecDepth 100000
set_option maxHeartbeats 2000000
namespace L2
open PySem PySem.Spec PyProof.Rows PySem.W
/-! ### sorted(d), of a dict whose keys are pairs of ints -/
/-- the order of pairs -/
def ltP (x y : Int × Int) : Bool := if (x.1 == y.1) = true then (if (x.2 == y.2) = true then false else decide (x.2 < y.2)) else decide (x.1 < y.1)
/-- a tuple of two ints -/
def TupI (h : Heap) (v : Value) (x : Int × Int) : Prop := ∃ a o t u n, v = .ref a ∧ h.get? a = some o ∧ o.cls = .type "tuple" ∧ o.data = .seq #[.int x.1 t, .int x.2 u] n
section
variable {prog : Program} {w : World} {A : Around} {E : Value → Shared → Prop} {s : Shared}
end
end L2

set_option Elab.async false
set_option linter.all false
set_option maxRecDepth 100000
set_option maxHeartbeats 2000000
namespace L2
open PySem PySem.Spec PyProof.Rows PySem.W
/-! ### dicts with tuples for keys, read by computing -/
section
variable {X : Cx} {K : PySem.W.Frag}
/- {} -/
/- d[k] -/
/- d.get(k, z) -/
/- d[k] = v -/
/- sorted(d) -/
end
end L2

set_option Elab.async false
set_option linter.all false
set_option maxRecDepth 100000
set_option maxHeartbeats 2000000
namespace L2
open PySem PySem.Spec PyProof.Rows PySem.W
/-! ### what a sort gives is in order -/
section
variable {lt : Nat → Nat → Bool} {n : Nat}
/-- the state: a permutation -/
theorem Pm.size {p : Array Nat} (h : Pm n p) : p.size = n := by have := h.length_eq; rw [Array.length_toList, List.length_range] at this; exact this
end
end L2

set_option Elab.async false
set_option linter.all false
set_option maxRecDepth 100000
set_option maxHeartbeats 2000000
namespace L2
open PySem PySem.Spec PyProof.Rows PySem.W
/-! ### sorted(d) in order -/
section
variable {prog : Program} {w : World} {A : Around} {E : Value → Shared → Prop} {s : Shared}
end
section
variable {X : Cx} {K : PySem.W.Frag}
end
end L2

set_option Elab.async false
set_option linter.all false
set_option maxRecDepth 100000
set_option maxHeartbeats 4000000
namespace L2
open PySem PySem.Spec PyProof.Rows
/-! ### isinstance(e, (C, D)) of what was caught -/
section
variable {X : Cx} {K : PySem.W.Frag} {H : Hp} {Q : VK}
/-- a caught exception of the class D -/
def ExA (H : Hp) (e D : Addr) : Prop := H e = some (excO e (.ref D) none) ∨ ∃ d fs, H e = some (excO e (.ref D) (some d)) ∧ H d = some (.xd fs)
theorem ExA.same {H H' : Hp} {e D : Addr} (x : ExA H e D) (s : Same H H') : ExA H' e D := by
  rcases x with x | ⟨d, fs, x, y⟩
  · exact .inl (s _ _ x)
  · exact .inr ⟨d, fs, s _ _ x, s _ _ y⟩
end
/-! ### try: y = ['..', f(..)] -/
section
variable {X : Cx} {pins : List (Addr × Obj)} {σ : St} {H : Hp} {s : Shared}
end
end L2

set_option Elab.async false
set_option linter.all false
set_option maxRecDepth 100000
set_option maxHeartbeats 4000000
namespace L2
open PySem PySem.Spec PyProof.Rows
/-! ### str(x) of a list, a tuple -/
mutual
inductive ShV (H : Hp) : V → PyData → Prop
  | non : ShV H .non .none
  | bl (b : Bool) : ShV H (.bl b) (.bool b)
  | int (i : Int) : ShV H (.int i) (.int i)
  | str (x : Str) : ShV H (.str x) (.str x)
  | lst {a : Addr} {xs : List V} {ds : List PyData} : H a = some (.lst xs) → ShL H xs ds → ShV H (.ref a) (.list ds)
  | tup {a : Addr} {xs : List V} {ds : List PyData} : H a = some (.tup xs) → ShL H xs ds → ShV H (.ref a) (.tuple ds)
inductive ShL (H : Hp) : List V → List PyData → Prop
  | nil : ShL H [] []
  | cons {x : V} {d : PyData} {xs : List V} {ds : List PyData} : ShV H x d → ShL H xs ds → ShL H (x :: xs) (d :: ds)
end
section
variable {X : Cx} {pins : List (Addr × Obj)} {σ : St} {H H' : Hp} {s : Shared} {Q : VK}
mutual
theorem ShV.same {v : V} {d : PyData} (h : ShV H v d) (k : Same H H') : ShV H' v d := match h with
  | .non => .non
  | .bl b => .bl b
  | .int i => .int i
  | .str x => .str x
  | .lst e l => .lst (k _ _ e) (l.same k)
  | .tup e l => .tup (k _ _ e) (l.same k)
theorem ShL.same {xs : List V} {ds : List PyData} (h : ShL H xs ds) (k : Same H H') : ShL H' xs ds := match h with
  | .nil => .nil
  | .cons a b => .cons (a.same k) (b.same k)
end
theorem ShL.len {xs : List V} {ds : List PyData} (h : ShL H xs ds) : xs.length = ds.length := match h with
  | .nil => rfl
  | .cons _ b => by rw [List.length_cons, List.length_cons, b.len]
mutual
theorem ShV.reads (I : Inv X pins σ H s) {v : V} {d : PyData} {u : Value} (h : ShV H v d) (r : RelV v u) : ∃ as, Reads s.heap u d as := match h with
  | .non => by cases (show u = Value.none from r); exact ⟨_, .none⟩
  | .bl b => by cases (show u = Value.bool b from r); exact ⟨_, .bool b⟩
  | .int i => by obtain ⟨t, q⟩ := (show ∃ t, u = Value.int i t from r); cases q; exact ⟨_, .int i t⟩
  | .str x => by obtain ⟨t, q⟩ := (show ∃ t, u = Value.str x t from r); cases q; exact ⟨_, .str x t⟩
  | .lst (a := a) (xs := xs) e l => by
    cases (show u = Value.ref a from r)
    obtain ⟨_, us, n, rv, h1⟩ := (show ObjOk X.prog X.w H s.heap a (.lst xs) from I.hok a _ e)
    obtain ⟨as, ra⟩ := l.reads I rv
    exact ⟨_, .list h1 rfl rfl (by simpa using ra)⟩
  | .tup (a := a) (xs := xs) e l => by
    cases (show u = Value.ref a from r)
    obtain ⟨_, us, rv, o, h1, h2, n, h3⟩ := (show ObjOk X.prog X.w H s.heap a (.tup xs) from I.hok a _ e)
    obtain ⟨as, ra⟩ := l.reads I rv
    exact ⟨_, .tuple h1 h2 h3 (by simpa using ra)⟩
theorem ShL.reads (I : Inv X pins σ H s) {xs : List V} {ds : List PyData} {us : List Value} (h : ShL H xs ds) (r : Vals xs us) : ∃ as, ReadsAll s.heap us ds as := match h, r with
  | .nil, .nil => ⟨_, .nil⟩
  | .cons a b, .cons r1 r2 => by
    obtain ⟨as, ra⟩ := a.reads I r1
    obtain ⟨bs, rb⟩ := b.reads I r2
    exact ⟨_, .cons ra rb⟩
end
/-- what can be shown: its depth, its length -/
structure Shows (d : PyData) (k m : Nat) : Prop where
  ok : d.showable = true
  nd : d.hasDict = false
  dp : d.depth ≤ k
  ln : d.shown.length ≤ m
theorem Shows.up {d : PyData} {k m k' m' : Nat} (h : Shows d k m) (h1 : k ≤ k') (h2 : m ≤ m') : Shows d k' m' := ⟨h.ok, h.nd, Nat.le_trans h.dp h1, Nat.le_trans h.ln h2⟩
theorem all_show {k m : Nat} : ∀ {ds : List PyData}, (∀ d ∈ ds, Shows d k m) → PyData.showableAll ds = true ∧ PyData.hasDictAll ds = false ∧ PyData.depthAll ds ≤ k ∧ piled (PyData.shownAll ds) ≤ ds.length * (m + 2)
  | [], _ => ⟨rfl, rfl, Nat.zero_le _, by simp [PyData.shownAll, piled]⟩
  | d :: ds, h => by
    have h0 := h d (.head _)
    obtain ⟨a1, a2, a3, a4⟩ := all_show (ds := ds) fun x hx => h x (.tail _ hx)
    refine ⟨by simp [PyData.showableAll, h0.ok, a1], by simp [PyData.hasDictAll, h0.nd, a2], ?_, ?_⟩
    · have := h0.dp
      simp only [PyData.depthAll]
      omega
    · have := h0.ln
      simp only [PyData.shownAll, piled_cons, List.length_cons, Nat.succ_mul]
      omega
theorem textFrom_le : ∀ (ts : List Str) (k : Nat) (acc : Str), (textFrom k acc ts).length ≤ acc.length + piled ts
  | [], _, acc => by simp [textFrom, piled]
  | t :: ts, k, acc => by
    have ih := textFrom_le ts (k + 1) (acc ++ (if k > 0 then ", " else "" : String) ++ t)
    have e : (acc ++ (if k > 0 then ", " else "" : String) ++ t).length = acc.length + (if k > 0 then 2 else 0) + t.length := by
      rw [strLen_append, strLen_append]
      congr 2
      split <;> rfl
    rw [piled_cons]
    show (textFrom (k + 1) _ ts).length ≤ _
    rw [e] at ih
    have e2 : (if k > 0 then 2 else 0) ≤ 2 := by split <;> omega
    omega
theorem Shows.list {ds : List PyData} {k m : Nat} (h : ∀ d ∈ ds, Shows d k m) : Shows (.list ds) (k + 1) (ds.length * (m + 2) + 2) := by
  obtain ⟨a1, a2, a3, a4⟩ := all_show h
  refine ⟨by simpa [PyData.showable] using a1, by simpa [PyData.hasDict] using a2, by simp only [PyData.depth]; omega, ?_⟩
  have := textFrom_le (PyData.shownAll ds) 0 "["
  have e1 : ((("[" : String) : Str)).length = 1 := rfl
  have e2 : ((("]" : String) : Str)).length = 1 := rfl
  simp only [PyData.shown, listText, strLen_append]
  omega
theorem Shows.tuple {ds : List PyData} {k m : Nat} (h : ∀ d ∈ ds, Shows d k m) : Shows (.tuple ds) (k + 1) (ds.length * (m + 2) + 4) := by
  obtain ⟨a1, a2, a3, a4⟩ := all_show h
  refine ⟨by simpa [PyData.showable] using a1, by simpa [PyData.hasDict] using a2, by simp only [PyData.depth]; omega, ?_⟩
  have e1 : ((("(" : String) : Str)).length = 1 := rfl
  have e3 : ((if (PyData.shownAll ds).length == 1 then ",)" else ")" : String) : Str).length ≤ 2 := by split <;> decide
  have e4 : (Str.join ", " (PyData.shownAll ds)).length ≤ piled (PyData.shownAll ds) := by
    by_cases z : PyData.shownAll ds = []
    · rw [z]; decide
    · have := join_length_add _ z; omega
  simp only [PyData.shown, tupleText, strLen_append]
  omega
theorem Shows.int {i : Int} (h : -(10 ^ 100) ≤ i) (h' : i ≤ 10 ^ 100) : Shows (.int i) 0 1921 := by
  have hl : i.natAbs.log2 < 1920 := by
    by_cases z : i.natAbs = 0
    · rw [z]; decide
    · rw [Nat.log2_lt z]
      have h1 : i.natAbs ≤ 10 ^ 100 := by omega
      exact Nat.lt_of_le_of_lt h1 (by decide +kernel)
  exact ⟨by simpa [PyData.showable] using hl, rfl, by simp [PyData.depth], by simpa only [PyData.shown] using PyProof.Rows.int_text_len_1921 hl⟩
theorem Shows.non : Shows .none 0 4 := ⟨rfl, rfl, by simp [PyData.depth], by decide⟩
theorem Shows.bl {b : Bool} : Shows (.bool b) 0 5 := by cases b <;> exact ⟨rfl, rfl, by simp [PyData.depth], by decide⟩
theorem Shows.str {x : Str} {m : Nat} (h : (reprText x).length ≤ m) : Shows (.str x) 0 m := ⟨rfl, rfl, by simp [PyData.depth], h⟩
/-- a list whose parts are shown -/
theorem ShL.of {xs : List V} (f : V → PyData) (h : ∀ x ∈ xs, ShV H x (f x)) : ShL H xs (xs.map f) := by
  induction xs with
  | nil => exact .nil
  | cons x xs ih => exact .cons (h x (.head _)) (ih fun y hy => h y (.tail _ hy))
end
end L2

set_option Elab.async false
set_option linter.all false
set_option maxRecDepth 100000
set_option maxHeartbeats 4000000
namespace L2
open PySem PySem.Spec PyProof.Rows
/-! ### things of any kind: what can be read of the heap as data -/
mutual
def sml : PyData → Bool
  | .none | .bool _ | .int _ | .str _ => true
  | .list xs | .tuple xs => decide (xs.length ≤ 1000) && smlAll xs
  | .dict _ => false
def smlAll : List PyData → Bool
  | [] => true
  | x :: xs => sml x && smlAll xs
end
theorem smlAll_of : ∀ {ds : List PyData}, (∀ d ∈ ds, sml d = true) → smlAll ds = true
  | [], _ => rfl
  | d :: ds, h => by simp [smlAll, h d (.head _), smlAll_of fun x hx => h x (.tail _ hx)]
section
variable {H H' : Hp} {K : PySem.W.Frag} {Q : VK}
theorem ShL.ex {P : PyData → Prop} : ∀ {xs : List V}, (∀ x ∈ xs, ∃ d, ShV H x d ∧ P d) → ∃ ds, ShL H xs ds ∧ ∀ d ∈ ds, P d
  | [], _ => ⟨[], .nil, fun _ h => by cases h⟩
  | x :: xs, h => by
    obtain ⟨d, h1, h2⟩ := h x (.head _)
    obtain ⟨ds, h3, h4⟩ := ShL.ex (xs := xs) fun y hy => h y (.tail _ hy)
    refine ⟨d :: ds, .cons h1 h3, fun e he => ?_⟩
    rcases List.mem_cons.mp he with rfl | he
    · exact h2
    · exact h4 e he
/-- readable: as data, small, with a text of at most m signs -/
def Rda (H : Hp) (v : V) (k m : Nat) : Prop := ∃ d, ShV H v d ∧ sml d = true ∧ Shows d k m
theorem Rda.same {v : V} {k m : Nat} (h : Rda H v k m) (s : Same H H') : Rda H' v k m := by obtain ⟨d, h1, h2, h3⟩ := h; exact ⟨d, h1.same s, h2, h3⟩
theorem Rda.up {v : V} {k m k' m' : Nat} (h : Rda H v k m) (h1 : k ≤ k' := by omega) (h2 : m ≤ m' := by omega) : Rda H v k' m' := by obtain ⟨d, a, b, c⟩ := h; exact ⟨d, a, b, c.up h1 h2⟩
theorem Rda.int {i : Int} (h : -(10 ^ 100) ≤ i) (h' : i ≤ 10 ^ 100) : Rda H (.int i) 0 1921 := ⟨_, .int i, rfl, Shows.int h h'⟩
theorem Rda.non : Rda H .non 0 1921 := ⟨_, .non, rfl, Shows.non.up (by omega) (by omega)⟩
theorem Rda.bl {b : Bool} : Rda H (.bl b) 0 1921 := ⟨_, .bl b, rfl, Shows.bl.up (by omega) (by omega)⟩
theorem Rda.str {x : Str} (h : (reprText x).length ≤ 1921) : Rda H (.str x) 0 1921 := ⟨_, .str x, rfl, Shows.str h⟩
theorem Rda.lst {a : Addr} {xs : List V} {k m : Nat} (e : H a = some (.lst xs)) (l : xs.length ≤ 1000) (h : ∀ x ∈ xs, Rda H x k m) : Rda H (.ref a) (k + 1) (xs.length * (m + 2) + 4) := by
  obtain ⟨ds, h1, h2⟩ := ShL.ex (P := fun d => sml d = true ∧ Shows d k m) h
  have hl := h1.len
  refine ⟨.list ds, .lst e h1, ?_, ?_⟩
  · simp only [sml, Bool.and_eq_true, decide_eq_true_eq]
    exact ⟨by omega, smlAll_of fun d hd => (h2 d hd).1⟩
  · have := Shows.list (ds := ds) (k := k) (m := m) fun d hd => (h2 d hd).2
    rw [hl]
    exact this.up (Nat.le_refl _) (by omega)
theorem Rda.tup {a : Addr} {xs : List V} {k m : Nat} (e : H a = some (.tup xs)) (l : xs.length ≤ 1000) (h : ∀ x ∈ xs, Rda H x k m) : Rda H (.ref a) (k + 1) (xs.length * (m + 2) + 4) := by
  obtain ⟨ds, h1, h2⟩ := ShL.ex (P := fun d => sml d = true ∧ Shows d k m) h
  have hl := h1.len
  refine ⟨.tuple ds, .tup e h1, ?_, ?_⟩
  · simp only [sml, Bool.and_eq_true, decide_eq_true_eq]
    exact ⟨by omega, smlAll_of fun d hd => (h2 d hd).1⟩
  · have := Shows.tuple (ds := ds) (k := k) (m := m) fun d hd => (h2 d hd).2
    rw [hl]
    exact this
/-! isinstance of any thing -/
end
end L2

set_option Elab.async false
set_option linter.all false
set_option maxRecDepth 100000
set_option maxHeartbeats 4000000
namespace L2
open PySem PySem.Spec PyProof.Rows
/-! ### x in a list or a tuple of flat things -/
section
variable {X : Cx} {K : PySem.W.Frag} {H : Hp} {Q : VK}
@[irreducible] def rInA (K : PySem.W.Frag) (neg : Bool) (x : V) (p : Addr) (H : Hp) (Q : VK) : Prop := ∃ xs, (SqL K H p xs ∨ SqT K H p xs) ∧ flatV x = true ∧ xs.all flatV = true ∧ Q (.bl (if neg then !inV x xs else inV x xs)) H
def rInM (K : PySem.W.Frag) (neg : Bool) : R2 := fun x y H Q => match y with
  | .ref p => rInA K neg x p H Q
  | _ => False
theorem oInK (hK : X.K = K) : OpR X (compareOp .In) (rInM K false) := by
  subst hK
  intro pins s σ H x y v u Q I rx ry h
  unfold rInM at h
  split at h
  · unfold rInA at h
    obtain ⟨xs, h1, h2, h3, h4⟩ := h
    exact op_in_seq pins s σ H _ _ v u Q I rx ry ⟨_, xs, rfl, h1, h2, h3, h4⟩
  · exact h.elim
theorem oNotInK (hK : X.K = K) : OpR X (compareOp .NotIn) (rInM K true) := by
  subst hK
  intro pins s σ H x y v u Q I rx ry h
  unfold rInM at h
  split at h
  · unfold rInA at h
    obtain ⟨xs, h1, h2, h3, h4⟩ := h
    exact op_notIn_seq pins s σ H _ _ v u Q I rx ry ⟨_, xs, rfl, h1, h2, h3, h4⟩
  · exact h.elim
theorem inL_rd {x : V} {p : Addr} {xs : List V} (h : SqL K H p xs) (h1 : flatV x = true) (h2 : xs.all flatV = true) (q : Q (.bl (inV x xs)) H) : rInA K false x p H Q := by unfold rInA; exact ⟨xs, .inl h, h1, h2, q⟩
theorem inT_rd {x : V} {p : Addr} {xs : List V} (h : SqT K H p xs) (h1 : flatV x = true) (h2 : xs.all flatV = true) (q : Q (.bl (inV x xs)) H) : rInA K false x p H Q := by unfold rInA; exact ⟨xs, .inr h, h1, h2, q⟩
theorem notInT_rd {x : V} {p : Addr} {xs : List V} (h : SqT K H p xs) (h1 : flatV x = true) (h2 : xs.all flatV = true) (q : Q (.bl (!inV x xs)) H) : rInA K true x p H Q := by unfold rInA; exact ⟨xs, .inr h, h1, h2, q⟩
/-! ### str of any thing -/
def strD : PyData → Str
  | .str x => x
  | d => d.shown
@[irreducible] def rStrA (x : V) (H : Hp) (Q : VK) : Prop := ∃ d : PyData, ShV H x d ∧ Shows d 20 16000000 ∧ Q (.str (strD d)) H
def rStrAM : List V → Hp → VK → Prop := fun xs H Q => match xs with
  | [x] => rStrA x H Q
  | _ => False
theorem cStrA {j : Nat} (hr : Room j X.A) : CallR X (.type "str") rStrAM := fun pins s σ H xs us Q I r h => by
  unfold rStrAM at h
  split at h
  · unfold rStrA at h
    obtain ⟨d, hv, hs, q⟩ := h
    obtain ⟨u, rfl, r1⟩ := vals1 r
    have := hr.un
    have hd := hs.dp
    cases hv with
    | non => cases (show u = Value.none from r1); exact P.str_of_none ⟨.str _, H, I.tok _, ⟨_, rfl⟩, q⟩
    | bl b => cases (show u = Value.bool b from r1); exact P.str_of_bool ⟨.str _, H, I.tok _, ⟨_, rfl⟩, q⟩
    | int i =>
      obtain ⟨t, e⟩ := (show ∃ t, u = Value.int i t from r1)
      cases e
      have ok : decide (i.natAbs.log2 < 1920) = true := hs.ok
      exact P.str_of_int (of_decide_eq_true ok) ⟨.str _, H, I.tok _, ⟨_, rfl⟩, q⟩
    | str x =>
      obtain ⟨t, e⟩ := (show ∃ t, u = Value.str x t from r1)
      cases e
      exact P.str_of_str ⟨.str x, H, I, ⟨_, rfl⟩, q⟩
    | @lst a xs ds e l =>
      cases (show u = Value.ref a from r1)
      obtain ⟨as, rd⟩ := (ShV.lst e l).reads I rfl
      exact str_of_reads (h₀ := s.heap) rd hs.ok (fun z => by rw [hs.nd] at z; cases z) hr.gd (by omega) (fun _ _ e => e) (fun h' u tk hk => ⟨.str _, H, I.kept hk, ⟨_, rfl⟩, q⟩) (Nat.le_trans hs.ln (by decide))
    | @tup a xs ds e l =>
      cases (show u = Value.ref a from r1)
      obtain ⟨as, rd⟩ := (ShV.tup e l).reads I rfl
      exact str_of_reads (h₀ := s.heap) rd hs.ok (fun z => by rw [hs.nd] at z; cases z) hr.gd (by omega) (fun _ _ e => e) (fun h' u tk hk => ⟨.str _, H, I.kept hk, ⟨_, rfl⟩, q⟩) (Nat.le_trans hs.ln (by decide))
  · exact h.elim
theorem strA_rd {x : V} {d : PyData} (h : ShV H x d) (hs : Shows d 20 16000000) (q : Q (.str (strD d)) H) : rStrA x H Q := by unfold rStrA; exact ⟨d, h, hs, q⟩
end
end L2

set_option Elab.async false
set_option linter.all false
set_option maxRecDepth 100000
set_option maxHeartbeats 4000000
namespace L2
open PySem PySem.Spec PyProof.Rows PySem.W
/-! ### dicts with ints for keys -/
section
variable {X : Cx} {K : PySem.W.Frag} {H : Hp} {Q : VK}
/- {}: of either kind -/
/- ints under ints -/
def dI (kv : List (Int × Int)) : List (Key × V) := kv.map fun z => (.inl z.1, .int z.2)
def valI (kv : List (Int × Int)) (i : Int) : Option Int := (kv.find? fun z => decide (z.1 = i)).map (·.2)
theorem valV_dI (i : Int) : ∀ kv : List (Int × Int), valV (dI kv) (.inl i) = (valI kv i).map V.int
  | [] => rfl
  | z :: kv => by
    by_cases e : z.1 = i
    · show valV (((.inl z.1 : Key), V.int z.2) :: dI kv) (.inl i) = _
      rw [valV_pos (by exact congrArg Sum.inl e)]
      unfold valI
      rw [List.find?_cons, decide_eq_true e]; rfl
    · show valV (((.inl z.1 : Key), V.int z.2) :: dI kv) (.inl i) = _
      rw [valV_neg (by exact fun q => e (Sum.inl.inj q)), valV_dI i kv]
      unfold valI
      rw [List.find?_cons, decide_eq_false e]
def eqDI (ka kb : List (Int × Int)) : Bool := ka.length == kb.length && ka.all fun z => valI kb z.1 == some z.2
theorem hits_dI {A : Around} {s : Shared} {kb : List (Int × Int)} {ws : List (Key × Value)} (rb : KV (dI kb) ws) : ∀ {ka : List (Int × Int)} {vs : List (Key × Value)}, KV (dI ka) vs → KeqHits A s ws vs (ka.all fun z => valI kb z.1 == some z.2)
  | [], vs, r => by
    unfold KV dI at r
    cases r
    exact .nil
  | z :: ka, vs, r => by
    unfold KV dI at r
    rw [List.map_cons] at r
    cases r with
    | @cons p q ps qs h t =>
      obtain ⟨h1, h2⟩ := h
      obtain ⟨k, v⟩ := q
      cases (show (Sum.inl z.1 : Key) = k from h1)
      have val := rb.val (.inl z.1)
      rw [valV_dI] at val
      rw [List.all_cons]
      cases e : valI kb z.1 with
      | none =>
        rw [e] at val
        have : valueAt ws (.inl z.1) = none := by
          cases w : valueAt ws (.inl z.1) with
          | none => rfl
          | some y => rw [w] at val; exact val.elim
        have f : ((none : Option Int) == some z.2) = false := rfl
        rw [f, Bool.false_and]
        exact .miss this
      | some n =>
        rw [e] at val
        obtain ⟨y, ey, ry⟩ : ∃ y, valueAt ws (.inl z.1) = some y ∧ RelV (.int n) y := by
          cases w : valueAt ws (.inl z.1) with
          | none => rw [w] at val; exact val.elim
          | some y => rw [w] at val; exact ⟨y, rfl, val⟩
        have q := eqAt_V (A := A) (s := s) (show RelV (.int z.2) v from h2) ry rfl rfl
        have e2 : eqV (.int z.2) (.int n) = (some n == some z.2) := by
          by_cases d : z.2 = n
          · subst d; simp [eqV]
          · have d' : ¬ n = z.2 := fun x => d x.symm
            show (z.2 == n) = (some n == some z.2)
            rw [beq_eq_false_iff_ne.mpr d]
            exact (beq_eq_false_iff_ne.mpr fun x => d' (Option.some.inj x)).symm
        rw [e2] at q
        exact .hit ey q (hits_dI rb t)
/-! ### == of lists and tuples, of dicts of ints, of things of any kind -/
@[irreducible] def rEqX (K : PySem.W.Frag) (x y : V) (H : Hp) (Q : VK) : Prop :=
  (∃ a b n c, x = .ref a ∧ y = .ref b ∧ n ≤ 40 ∧ EqR K H n (.ref a) (.ref b) c ∧ Q (.bl c) H) ∨
  (∃ a b ka kb, x = .ref a ∧ y = .ref b ∧ H a = some (.dK (dI ka)) ∧ H b = some (.dK (dI kb)) ∧ Q (.bl (eqDI ka kb)) H) ∨
  ∃ d e, ShV H x d ∧ ShV H y e ∧ d.canLay0 = true ∧ e.canLay0 = true ∧ d.depth ≤ 40 ∧ Q (.bl (PyData.eqv d e)) H
def rEqXM (K : PySem.W.Frag) : R2 := fun x y H Q => match x, y with
  | .int i, .int j => Q (.bl (decide (i = j))) H
  | .bl i, .bl j => Q (.bl (decide (i = j))) H
  | .str i, .str j => Q (.bl (decide (i = j))) H
  | x, y => rEqX K x y H Q
def rNeXM (K : PySem.W.Frag) : R2 := fun x y H Q => rEqXM K x y H fun v H' => match v with
  | .bl b => Q (.bl (!b)) H'
  | _ => False
theorem oEqX (hu : X.A.units + 40 < cLine) : OpR X (compareOp .Eq) (rEqXM X.K) := by
  intro pins s σ H x y v u Q I rx ry h
  unfold rEqXM at h
  split at h
  · exact op_eq pins s σ H _ _ v u Q I rx ry ⟨rfl, by rw [dec_inj (f := V.int) fun a b e => V.int.inj e]; exact h⟩
  · exact op_eq pins s σ H _ _ v u Q I rx ry ⟨rfl, by rw [dec_inj (f := V.bl) fun a b e => V.bl.inj e]; exact h⟩
  · exact op_eq pins s σ H _ _ v u Q I rx ry ⟨rfl, by rw [dec_inj (f := V.str) fun a b e => V.str.inj e]; exact h⟩
  · unfold rEqX at h
    rcases h with ⟨a, b, n, c, rfl, rfl, hn, h1, h2⟩ | ⟨a, b, ka, kb, rfl, rfl, ea, eb, h⟩ | ⟨d, e, hd, he, cd, ce, dd, h⟩
    · cases rx
      cases ry
      exact EqR.rc I h1 (A := X.A) (by omega) _ _ _ _ ⟨.bl c, H, I, rfl, h2⟩
    · cases rx
      cases ry
      obtain ⟨_, sa, vs, ra, da⟩ := dk_of I.hok ea
      obtain ⟨_, sb, ws, rb, db⟩ := dk_of I.hok eb
      refine keq_eq sa sb da db (by omega) (fun _ => hits_dI rb ra) ⟨.bl (eqDI ka kb), H, I, ?_, h⟩
      have la : vs.length = ka.length := by rw [← ra.length]; unfold dI; rw [List.length_map]
      have lb : ws.length = kb.length := by rw [← rb.length]; unfold dI; rw [List.length_map]
      rw [la, lb]
      rfl
    · obtain ⟨as, r1⟩ := hd.reads I rx
      obtain ⟨bs, r2⟩ := he.reads I ry
      exact SeqAt.compareEq_reads r1 r2 cd ce (by have := Nat.min_le_left d.depth e.depth; omega) ⟨.bl (PyData.eqv d e), H, I, rfl, h⟩
theorem oNeX (hu : X.A.units + 40 < cLine) : OpR X (compareOp .NotEq) (rNeXM X.K) := by
  intro pins s σ H x y v u Q I rx ry h
  unfold rNeXM rEqXM at h
  split at h
  · exact op_ne pins s σ H _ _ v u Q I rx ry ⟨rfl, by rw [dec_inj (f := V.int) fun a b e => V.int.inj e]; exact h⟩
  · exact op_ne pins s σ H _ _ v u Q I rx ry ⟨rfl, by rw [dec_inj (f := V.bl) fun a b e => V.bl.inj e]; exact h⟩
  · exact op_ne pins s σ H _ _ v u Q I rx ry ⟨rfl, by rw [dec_inj (f := V.str) fun a b e => V.str.inj e]; exact h⟩
  · unfold rEqX at h
    rcases h with ⟨a, b, n, c, rfl, rfl, hn, h1, h2⟩ | ⟨a, b, ka, kb, rfl, rfl, ea, eb, h⟩ | ⟨d, e, hd, he, cd, ce, dd, h⟩
    · cases rx
      cases ry
      exact EqR.rcNe I h1 (A := X.A) (by omega) _ _ _ _ ⟨.bl (!c), H, I, rfl, h2⟩
    · cases rx
      cases ry
      obtain ⟨_, sa, vs, ra, da⟩ := dk_of I.hok ea
      obtain ⟨_, sb, ws, rb, db⟩ := dk_of I.hok eb
      refine keq_ne sa sb da db (by omega) (fun _ => hits_dI rb ra) ⟨.bl (!eqDI ka kb), H, I, ?_, h⟩
      have la : vs.length = ka.length := by rw [← ra.length]; unfold dI; rw [List.length_map]
      have lb : ws.length = kb.length := by rw [← rb.length]; unfold dI; rw [List.length_map]
      rw [la, lb]
      rfl
    · obtain ⟨as, r1⟩ := hd.reads I rx
      obtain ⟨bs, r2⟩ := he.reads I ry
      exact SeqAt.compareNe_reads r1 r2 cd ce (by have := Nat.min_le_left d.depth e.depth; omega) ⟨.bl (!PyData.eqv d e), H, I, rfl, h⟩
theorem eqX_rd {a b : Addr} {n : Nat} {c : Bool} (h : EqR K H n (.ref a) (.ref b) c) (q : Q (.bl c) H) (hn : n ≤ 40 := by decide) : rEqX K (.ref a) (.ref b) H Q := by unfold rEqX; exact .inl ⟨a, b, n, c, rfl, rfl, hn, h, q⟩
theorem eqS_rd {x y : V} {d e : PyData} (hd : ShV H x d) (he : ShV H y e) (cd : d.canLay0 = true) (ce : e.canLay0 = true) (dd : d.depth ≤ 40) (q : Q (.bl (PyData.eqv d e)) H) : rEqX K x y H Q := by unfold rEqX; exact .inr (.inr ⟨d, e, hd, he, cd, ce, dd, q⟩)
end
end L2

set_option Elab.async false
set_option linter.all false
set_option maxRecDepth 100000
set_option maxHeartbeats 4000000
namespace L2
open PySem PySem.Spec PyProof.Rows PySem.W
/-! ### < of two pairs of ints -/
theorem tuple_lt2 (l b : Addr) (x y : Int × Int) (t u t' u' : Tok) (n n2 : Nat) (dd dd2 : Option Addr) (sl sl2 : Array (Option Value)) :
    Meets (Builtin.«tuple.__lt__» ⟨[.ref l, .ref b], []⟩)
      (fun A R s => s.heap.get? l = some { cls := .type "tuple", dict := dd, data := .seq #[.int x.1 t, .int x.2 u] n, slots := sl } ∧ s.heap.get? b = some { cls := .type "tuple", dict := dd2, data := .seq #[.int y.1 t', .int y.2 u'] n2, slots := sl2 } ∧
        R (.ok (.ret (.bool (ltP x y)))) s) :=
  .of_wp fun prog w A R s h => by
    obtain ⟨hp, g, d, tk, os⟩ := s; obtain ⟨hl, hb, h⟩ := h
    have f2 := AutoSeq1.sub_tuple_tuple
    wp_walk using wpAny_loadPart' hl, wpAny_loadPart' hb, wpAny_forIn_list _ (fun rest b s' => b.1 = none ∧ s' = ⟨hp, g, d, tk, os⟩ ∧ (rest = [(.int x.1 t, .int y.1 t'), (.int x.2 u, .int y.2 u')] ∨ (x.1 = y.1 ∧ rest = [(.int x.2 u, .int y.2 u')]) ∨ (x.1 = y.1 ∧ x.2 = y.2 ∧ rest = []))) _
    case turn =>
      rintro ⟨p, q⟩ rest b s' ⟨hb', rfl, hz⟩
      rcases hz with hz | ⟨e0, hz⟩ | ⟨_, _, hz⟩
      · cases hz
        refine wpAny_bind (wpAny_eqBool_int ?_)
        cases e : (x.1 == y.1)
        · have h' : R (Except.ok (Flow.ret (Value.bool (decide (x.1 < y.1))))) ⟨hp, g, d, tk, os⟩ := by
            unfold ltP at h
            rw [if_neg (by rw [e]; exact Bool.false_ne_true)] at h
            exact h
          simp only [Bool.not_false, if_true]
          refine wpAny_bind (wpAny_rule ?_)
          refine wpAny_bind ((lt_int (Q := _) ?_ : wpAny _ _ (compareOp .Lt _ _) _ _ _))
          wp_walk
          exact ⟨_, rfl, h'⟩
        · wp_walk
          exact ⟨rfl, rfl, .inr (.inl ⟨by simpa using e, rfl⟩)⟩
      · cases hz
        refine wpAny_bind (wpAny_eqBool_int ?_)
        cases e : (x.2 == y.2)
        · have h' : R (Except.ok (Flow.ret (Value.bool (decide (x.2 < y.2))))) ⟨hp, g, d, tk, os⟩ := by
            unfold ltP at h
            rw [if_pos (by rw [e0]; exact beq_self_eq_true _), if_neg (by rw [e]; exact Bool.false_ne_true)] at h
            exact h
          simp only [Bool.not_false, if_true]
          refine wpAny_bind (wpAny_rule ?_)
          refine wpAny_bind ((lt_int (Q := _) ?_ : wpAny _ _ (compareOp .Lt _ _) _ _ _))
          wp_walk
          exact ⟨_, rfl, h'⟩
        · wp_walk
          exact ⟨rfl, rfl, .inr (.inr ⟨e0, by simpa using e, rfl⟩)⟩
      · cases hz
    case fin =>
      rintro ⟨b1, b2⟩ s' ⟨hb', rfl, hz⟩
      simp only at hb'
      subst hb'
      rcases hz with hz | ⟨e0, hz⟩ | ⟨e0, e1, hz⟩
      · cases hz
      · cases hz
      · have h' : R (Except.ok (Flow.ret (Value.bool false))) ⟨hp, g, d, tk, os⟩ := by
          unfold ltP at h
          rw [if_pos (by rw [e0]; exact beq_self_eq_true _), if_pos (by rw [e1]; exact beq_self_eq_true _)] at h
          exact h
        wp_walk
        exact ⟨_, rfl, h'⟩
    exact ⟨rfl, rfl, .inl rfl⟩
section
variable {prog : Program} {w : World} {A : Around} {E : Value → Shared → Prop} {s : Shared}
theorem lt_pairs {v v' : Value} {x y : Int × Int} {Q : Value → Shared → Prop} (ha : TupI s.heap v x) (hb : TupI s.heap v' y) (hu : A.units < cLine) (h : Q (.bool (ltP x y)) s) : wpAny (model prog w) A (compareOp .Lt v v') Q E s := by
  obtain ⟨a, ⟨cls, dd, data, sl⟩, t, u, n, rfl, ho, hc, hd⟩ := ha
  obtain ⟨b, ⟨cls2, dd2, data2, sl2⟩, t', u', n2, rfl, ho2, hc2, hd2⟩ := hb
  simp only at hc hd hc2 hd2
  subst hc hd hc2 hd2
  exact richCompare_meets_room (op := .Lt) ⟨_, ho, rfl⟩ ⟨_, ho2, rfl⟩ F.slot_tuple_lt F.entry_tuple_lt (F.args_tuple_lt_2 _ _) (tuple_lt2 a b x y t u t' u' n n2 dd dd2 sl sl2)
    ⟨ho, ho2, show Value.bool (ltP x y) ≠ Value.notImplemented ∧ Q (.bool (ltP x y)) s from ⟨(fun x => nomatch x), h⟩⟩ hu
end
section
variable {X : Cx} {K : PySem.W.Frag} {H : Hp} {Q : VK}
def pV (x : Int × Int) : List V := [.int x.1, .int x.2]
@[irreducible] def rLtA (a b : Addr) (H : Hp) (Q : VK) : Prop := ∃ x y : Int × Int, H a = some (.tup (pV x)) ∧ H b = some (.tup (pV y)) ∧ Q (.bl (ltP x y)) H
def rLtXM : R2 := fun x y H Q => match x, y with
  | .int i, .int j => Q (.bl (decide (i < j))) H
  | .ref a, .ref b => rLtA a b H Q
  | _, _ => False
theorem tupI_of {pins : List (Addr × Obj)} {σ : St} {H : Hp} {s : Shared} {a : Addr} {x : Int × Int} (I : Inv X pins σ H s) (h : H a = some (.tup (pV x))) : TupI s.heap (.ref a) x := by
  obtain ⟨_, its, rv, o, h1, h2, n, h3⟩ := (show ObjOk X.prog X.w H s.heap a (.tup (pV x)) from I.hok a _ h)
  unfold pV at rv
  cases rv with
  | cons r1 rv =>
    cases rv with
    | cons r2 rv =>
      cases rv
      obtain ⟨t, rfl⟩ := r1
      obtain ⟨u, rfl⟩ := r2
      exact ⟨a, o, t, u, n, rfl, h1, h2, h3⟩
theorem oLtX (hu : X.A.units + 40 < cLine) : OpR X (compareOp .Lt) rLtXM := by
  intro pins s σ H x y v u Q I rx ry h
  unfold rLtXM at h
  split at h
  · exact op_lt pins s σ H _ _ v u Q I rx ry ⟨_, _, rfl, rfl, h⟩
  · unfold rLtA at h
    obtain ⟨x, y, ea, eb, h⟩ := h
    cases rx
    cases ry
    exact lt_pairs (tupI_of I ea) (tupI_of I eb) (by omega) ⟨.bl (ltP x y), H, I, rfl, h⟩
  · exact h.elim
/-! ### a slice of a list or of a tuple -/
@[irreducible] def rSlX (K : PySem.W.Frag) (a : Addr) (lo hi : Option Int) (H : Hp) (Q : VK) : Prop := (∃ xs, SqL K H a xs ∧ ∀ p H', H p = none → Same H H' → H' p = some (.lst (cutV xs lo hi)) → Q (.ref p) H') ∨
  ∃ xs, SqT K H a xs ∧ ¬ (HT.sIx xs.length 0 lo = 0 ∧ HT.sIx xs.length xs.length hi = xs.length) ∧ ∀ p H', H p = none → Same H H' → H' p = some (.tup (cutV xs lo hi)) → Q (.ref p) H'
def rSlXM (K : PySem.W.Frag) : V → Option Int → Option Int → Hp → VK → Prop := fun x lo hi H Q => match x with
  | .ref a => rSlX K a lo hi H Q
  | _ => False
theorem slX : SlR X (rSlXM X.K) := by
  intro pins s σ H x v vl vu lo hi sl Q I rx hs pl pu h
  unfold rSlXM at h
  split at h
  · unfold rSlX at h
    rcases h with ⟨xs, h1, q⟩ | ⟨xs, h1, h2, q⟩
    · exact sl_list pins s σ H _ v vl vu lo hi sl Q I rx hs pl pu ⟨_, xs, rfl, h1, fun p hp => q p _ hp (Same.upd hp) upd_same⟩
    · exact sl_tup pins s σ H _ v vl vu lo hi sl Q I rx hs pl pu ⟨_, xs, rfl, h1, h2, fun p hp => q p _ hp (Same.upd hp) upd_same⟩
  · exact h.elim
theorem slL_rd {a : Addr} {xs : List V} {lo hi : Option Int} (h : SqL K H a xs) (q : ∀ p H', H p = none → Same H H' → H' p = some (.lst (cutV xs lo hi)) → Q (.ref p) H') : rSlX K a lo hi H Q := by unfold rSlX; exact .inl ⟨xs, h, q⟩
theorem oEqXK (hK : X.K = K) (hu : X.A.units + 40 < cLine) : OpR X (compareOp .Eq) (rEqXM K) := by subst hK; exact oEqX hu
theorem oNeXK (hK : X.K = K) (hu : X.A.units + 40 < cLine) : OpR X (compareOp .NotEq) (rNeXM K) := by subst hK; exact oNeX hu
/-! ### is and is not of bools and of None -/
def rIsXM : R2 := fun x y H Q => match x, y with
  | .bl i, .bl j => Q (.bl (decide (i = j))) H
  | x, .non => Q (.bl (decide (x = .non))) H
  | _, _ => False
theorem same_bools (i j : Bool) : isSame (.bool i) (.bool j) = pure (decide (i = j)) := by cases i <;> cases j <;> rfl
theorem oIsX : OpR X (compareOp .Is) rIsXM := by
  intro pins s σ H x y v u Q I rx ry h
  unfold rIsXM at h
  split at h
  · rename_i i j
    cases (show v = Value.bool i from rx)
    cases (show u = Value.bool j from ry)
    show wpAny _ _ (isSame (.bool i) (.bool j) >>= fun b => pure (Value.bool b)) _ _ s
    rw [same_bools]
    exact wpAny_bind (wpAny_pure (wpAny_pure ⟨.bl (decide (i = j)), H, I, rfl, h⟩))
  · exact op_isN pins s σ H _ _ v u Q I rx ry ⟨rfl, h⟩
  · exact h.elim
end
end L2

set_option Elab.async false
set_option linter.all false
set_option maxRecDepth 100000
set_option maxHeartbeats 4000000
namespace L2
open PySem PySem.Spec PyProof.Rows PySem.W
/-! ### several statements in a try: what raises has stored nothing ahead of it -/
section
variable {X : Cx}
end
/-! ### + of lists, of tuples -/
section
variable {X : Cx} {K : PySem.W.Frag} {H : Hp} {Q : VK}
end
end L2

set_option Elab.async false
set_option linter.all false
set_option maxRecDepth 100000
set_option maxHeartbeats 2000000
namespace L2
open PySem PySem.Spec PyProof.Rows
/-! ### xs.insert(0, v), xs.pop(i) -/
section
variable {X : Cx} {K : PySem.W.Frag}
end
end L2

set_option Elab.async false
set_option linter.all false
set_option maxRecDepth 100000
set_option maxHeartbeats 4000000
namespace L2
open PySem PySem.Spec PyProof.Rows PySem.W
/-! ### >= of two pairs of ints -/
section
variable {prog : Program} {w : World} {A : Around} {E : Value → Shared → Prop} {s : Shared}
end
section
variable {X : Cx} {K : PySem.W.Frag} {H : Hp} {Q : VK}
end
end L2
namespace L2
end L2

set_option Elab.async false
set_option linter.all false
set_option maxRecDepth 100000
set_option maxHeartbeats 2000000
namespace L2
open PySem PySem.Spec PyProof.Rows PySem.W
section
variable {X : Cx} {K : PySem.W.Frag}
/-! ### max of a list of ints -/
end
/-! ### reversed(range(n)) -/
section
variable {prog : Program} {w : World} {A : Around} {E : Value → Shared → Prop} {s : Shared}
end
section
variable {X : Cx} {K : PySem.W.Frag} {tg : Expr}
end
end L2

set_option Elab.async false
set_option linter.all false
set_option maxRecDepth 100000
set_option maxHeartbeats 2000000
namespace L2
open PySem PySem.Spec PyProof.Rows PySem.W
section
variable {X : Cx} {K : PySem.W.Frag}
/-! ### xs[i] op= e -/
end
/-! ### comprehensions over a list whose elements change things -/
section
variable {K : PySem.W.Frag} {g : TG} {tt : TT} {te : TE} {σ0 : St} {H1 : Hp} {Q : VK}
end
end L2

set_option Elab.async false
set_option linter.all false
set_option maxRecDepth 100000
set_option maxHeartbeats 2000000
namespace L2
open PySem PySem.Spec PyProof.Rows PySem.W
/-! ### for x in reversed(xs) -/
section
variable {X : Cx} {K : PySem.W.Frag} {tg : Expr}
end
section
variable {K : PySem.W.Frag} {g : TG} {tb : TS} {D : Ends} {σ : St} {H : Hp}
end
end L2

set_option Elab.async false
set_option linter.all false
set_option maxRecDepth 100000
set_option maxHeartbeats 2000000
namespace L2
open PySem PySem.Spec PyProof.Rows PySem.W
/-! ### list(reversed(xs)) -/
section
variable {prog : Program} {w : World} {A : Around} {E : Value → Shared → Prop} {s : Shared}
end
section
variable {X : Cx} {K : PySem.W.Frag}
end
end L2

set_option Elab.async false
set_option linter.all false
set_option maxRecDepth 100000
set_option maxHeartbeats 4000000
namespace L2
open PySem PySem.Spec PyProof.Rows
/-! ### x in a list of lists -/
section
variable {X : Cx} {K : PySem.W.Frag} {H : Hp} {Q : VK}
def eRef (c : Addr → Bool) : Value → Bool
  | .ref a => c a
  | _ => false
theorem vals_refs : ∀ {rs : List Addr} {us : List Value}, Vals (rs.map V.ref) us → us = rs.map Value.ref
  | [], us, h => by cases h; rfl
  | r :: rs, us, h => by
    cases h with
    | cons h1 h2 =>
      have h1 : _ = Value.ref r := h1
      rw [List.map_cons, ← vals_refs h2, h1]
end
/-! ### for x, y, z in zip(xs, ys, zs) -/
section
variable {K : PySem.W.Frag} {g : TG} {tb : TS} {D : Ends} {σ : St} {H : Hp} {R : It → Hp → Prop}
end
end L2

set_option Elab.async false
set_option linter.all false
set_option maxRecDepth 100000
set_option maxHeartbeats 4000000
namespace L2
open PySem PySem.Spec PyProof.Rows
/-! ### a set's table: where a search goes -/
abbrev Pb := SetTable.Probe
noncomputable def advM (mask : Nat) (p : Pb) : Pb :=
  if p.more > 0 then { j := p.j + 1, more := p.more - 1, i := p.i, perturb := p.perturb, dummy := p.dummy }
  else { j := (SetTable.leap mask p.i p.perturb).1, more := SetTable.runEnd mask (SetTable.leap mask p.i p.perturb).1 - (SetTable.leap mask p.i p.perturb).1, i := (SetTable.leap mask p.i p.perturb).1, perturb := (SetTable.leap mask p.i p.perturb).2, dummy := p.dummy }
def runS (mask : Nat) (a : Nat × Nat) : Pb := { j := a.1, more := SetTable.runEnd mask a.1 - a.1, i := a.1, perturb := a.2, dummy := none }
def stp (mask : Nat) (h : Int) : Nat → Pb
  | 0 => runS mask (SetTable.bits h % (mask + 1), SetTable.bits h)
  | k + 1 => advM mask (stp mask h k)
def wk (mask : Nat) (h : Int) (k : Nat) : Nat := (stp mask h k).j
theorem stp_dummy (mask : Nat) (h : Int) : ∀ k, (stp mask h k).dummy = none
  | 0 => rfl
  | k + 1 => by
    show (advM mask (stp mask h k)).dummy = none
    unfold advM
    split <;> exact stp_dummy mask h k
abbrev Msk (mask : Nat) : Prop := mask = 7 ∨ mask = 31
/-! ### binary search -/
theorem below_go {xs : Array Nat} {j : Nat} (srt : xs.toList.Pairwise (· < ·)) : ∀ (fuel lo hi : Nat), lo ≤ hi → hi ≤ xs.size → hi - lo ≤ fuel → (∀ (i : Nat) x, i < lo → xs[i]? = some x → x < j) → (∀ (i : Nat) x, hi ≤ i → xs[i]? = some x → j ≤ x) →
    (SetTable.below.go xs j fuel lo hi ≤ xs.size ∧ (∀ (i : Nat) x, i < SetTable.below.go xs j fuel lo hi → xs[i]? = some x → x < j) ∧ ∀ (i : Nat) x, SetTable.below.go xs j fuel lo hi ≤ i → xs[i]? = some x → j ≤ x)
  | 0, lo, hi, h1, h2, h3, a, b => by
    rw [SetTable.below.go.eq_1]
    have : lo = hi := by omega
    subst this
    exact ⟨h2, a, b⟩
  | fuel + 1, lo, hi, h1, h2, h3, a, b => by
    have mono : ∀ {i k : Nat} {x y : Nat}, i < k → xs[i]? = some x → xs[k]? = some y → x < y := fun {i k x y} hik e1 e2 => by
      rw [← Array.getElem?_toList] at e1 e2
      obtain ⟨l1, g1⟩ := List.getElem?_eq_some_iff.mp e1
      obtain ⟨l2, g2⟩ := List.getElem?_eq_some_iff.mp e2
      have := List.pairwise_iff_getElem.mp srt i k l1 l2 hik
      rw [g1, g2] at this
      exact this
    rw [SetTable.below.go.eq_2]
    by_cases c : lo < hi
    · rw [if_pos c]
      have hm : (lo + hi) / 2 < xs.size := by omega
      have em : xs[(lo + hi) / 2]? = some xs[(lo + hi) / 2] := Array.getElem?_eq_getElem hm
      have eg : xs.getD ((lo + hi) / 2) j = xs[(lo + hi) / 2] := by rw [Array.getD_eq_getD_getElem?, em]; rfl
      show _ ∧ _
      by_cases d : xs.getD ((lo + hi) / 2) j < j
      · rw [if_pos d]
        rw [eg] at d
        refine below_go srt fuel _ hi (by omega) h2 (by omega) (fun i x hi' e => ?_) b
        by_cases z : i = (lo + hi) / 2
        · subst z; rw [em] at e; cases e; exact d
        · exact Nat.lt_trans (mono (by omega) e em) d
      · rw [if_neg d]
        rw [eg] at d
        refine below_go srt fuel lo _ (by omega) (by omega) (by omega) a (fun i x hi' e => ?_)
        by_cases z : i = (lo + hi) / 2
        · subst z; rw [em] at e; cases e; omega
        · have := mono (show (lo + hi) / 2 < i by omega) em e
          omega
    · rw [if_neg c]
      have : lo = hi := by omega
      subst this
      exact ⟨h2, a, b⟩
theorem below_is {xs : Array Nat} (srt : xs.toList.Pairwise (· < ·)) (j : Nat) : SetTable.below xs j ≤ xs.size ∧ (∀ (i : Nat) x, i < SetTable.below xs j → xs[i]? = some x → x < j) ∧ ∀ (i : Nat) x, SetTable.below xs j ≤ i → xs[i]? = some x → j ≤ x :=
  below_go srt _ 0 xs.size (Nat.zero_le _) (Nat.le_refl _) (by omega) (fun i x h => by omega) (fun i x h e => by
    have := (Array.getElem?_eq_some_iff.mp e).1
    omega)
theorem below_at {xs : Array Nat} (srt : xs.toList.Pairwise (· < ·)) {i j : Nat} (e : xs[i]? = some j) : SetTable.below xs j = i := by
  obtain ⟨a, b, c⟩ := below_is srt j
  by_cases h1 : i < SetTable.below xs j
  · have := b i j h1 e; omega
  · by_cases h2 : SetTable.below xs j < i
    · have hs : SetTable.below xs j < xs.size := by have := (Array.getElem?_eq_some_iff.mp e).1; omega
      have er : xs[SetTable.below xs j]? = some xs[SetTable.below xs j] := Array.getElem?_eq_getElem hs
      have := c _ _ (Nat.le_refl _) er
      rw [← Array.getElem?_toList] at e er
      obtain ⟨l1, g1⟩ := List.getElem?_eq_some_iff.mp e
      obtain ⟨l2, g2⟩ := List.getElem?_eq_some_iff.mp er
      have := List.pairwise_iff_getElem.mp srt _ _ l2 l1 h2
      rw [g1, g2] at this
      omega
    · omega
theorem has_nil (j : Nat) : SetTable.has #[] j = false := rfl
theorem slot_live {t : SetTable} (srt : t.place.toList.Pairwise (· < ·)) {i j : Nat} (e : t.place[i]? = some j) : t.slot j = .live i := by
  unfold SetTable.slot
  show (if (t.place[SetTable.below t.place j]? == some j) = true then _ else _) = _
  rw [below_at srt e, e, if_pos (beq_self_eq_true _)]
theorem slot_empty {t : SetTable} (dum : t.dummies = #[]) {j : Nat} (e : j ∉ t.place.toList) : t.slot j = .empty := by
  unfold SetTable.slot
  show (if (t.place[SetTable.below t.place j]? == some j) = true then _ else if SetTable.has t.dummies j = true then _ else _) = _
  have : ¬ (t.place[SetTable.below t.place j]? == some j) = true := fun h => by
    have h := eq_of_beq h
    rw [← Array.getElem?_toList] at h
    exact e (List.mem_of_getElem? h)
  rw [if_neg this, dum, has_nil, if_neg Bool.false_ne_true]
/-! ### a table that holds hashes -/
structure TOk (t : SetTable) (hs : List Int) : Prop where
  msk : Msk t.mask
  dum : t.dummies = #[]
  len : t.place.toList.length = hs.length
  srt : t.place.toList.Pairwise (· < ·)
  bnd : ∀ j ∈ t.place.toList, j ≤ t.mask
  rch : ∀ (i : Nat) h, hs[i]? = some h → ∃ k, t.place.toList[i]? = some (wk t.mask h k) ∧ ∀ k', k' < k → wk t.mask h k' ∈ t.place.toList
/-- what a search meets next -/
theorem go_meets {t : SetTable} {hs : List Int} (T : TOk t hs) {hashAt : Nat → Int} {h : Int} {k0 : Nat} (free : wk t.mask h k0 ∉ t.place.toList) (full : ∀ k', k' < k0 → wk t.mask h k' ∈ t.place.toList) : ∀ (fuel k : Nat), k ≤ k0 → k0 - k < fuel →
    (∃ k1 i, k ≤ k1 ∧ k1 < k0 ∧ t.place.toList[i]? = some (wk t.mask h k1) ∧ hashAt i = h ∧ SetTable.probe.go t hashAt h fuel (stp t.mask h k) = some (.candidate (wk t.mask h k1) i (stp t.mask h (k1 + 1))) ∧ ∀ k', k ≤ k' → k' < k1 → ∀ i', t.place.toList[i']? = some (wk t.mask h k') → hashAt i' ≠ h) ∨
    (SetTable.probe.go t hashAt h fuel (stp t.mask h k) = some (.empty (wk t.mask h k0) none) ∧ ∀ k', k ≤ k' → k' < k0 → ∀ i', t.place.toList[i']? = some (wk t.mask h k') → hashAt i' ≠ h)
  | 0, k, h1, h2 => by omega
  | fuel + 1, k, h1, h2 => by
    rw [SetTable.probe.go.eq_2]
    by_cases e : k = k0
    · subst e
      right
      rw [show t.slot (stp t.mask h k).j = .empty from slot_empty T.dum free]
      refine ⟨?_, fun k' a b => by omega⟩
      show some (SetTable.Met.empty (wk t.mask h k) (stp t.mask h k).dummy) = _
      rw [stp_dummy]
    · obtain ⟨i, ei⟩ := List.getElem?_of_mem (full k (by omega))
      have ei' : t.place[i]? = some (wk t.mask h k) := by rw [← Array.getElem?_toList]; exact ei
      rw [show t.slot (stp t.mask h k).j = .live i from slot_live T.srt ei']
      show (∃ k1 i1, _ ∧ _ ∧ _ ∧ _ ∧ (if (hashAt i == h) = true then some (SetTable.Met.candidate (wk t.mask h k) i (stp t.mask h (k + 1))) else SetTable.probe.go t hashAt h fuel (stp t.mask h (k + 1))) = _ ∧ _) ∨ ((if (hashAt i == h) = true then some (SetTable.Met.candidate (wk t.mask h k) i (stp t.mask h (k + 1))) else SetTable.probe.go t hashAt h fuel (stp t.mask h (k + 1))) = _ ∧ _)
      by_cases c : hashAt i = h
      · left
        exact ⟨k, i, Nat.le_refl _, by omega, ei, c, by rw [if_pos (by rw [c]; exact beq_self_eq_true _)], fun k' a b => by omega⟩
      · have nc : ¬ (hashAt i == h) = true := fun z => c (eq_of_beq z)
        rw [if_neg nc]
        have here : ∀ i', t.place.toList[i']? = some (wk t.mask h k) → hashAt i' ≠ h := fun i' e' => by
          have : i' = i := by
            have b1 := below_at T.srt (i := i') (j := wk t.mask h k) (by rw [← Array.getElem?_toList]; exact e')
            have b2 := below_at T.srt ei'
            omega
          rw [this]; exact c
        rcases go_meets T free full fuel (k + 1) (by omega) (by omega) with ⟨k1, i1, a1, a2, a3, a4, a5, a6⟩ | ⟨a1, a2⟩
        · left
          refine ⟨k1, i1, by omega, a2, a3, a4, a5, fun k' b1 b2 i' e' => ?_⟩
          by_cases z : k' = k
          · subst z; exact here i' e'
          · exact a6 k' (by omega) b2 i' e'
        · right
          refine ⟨a1, fun k' b1 b2 i' e' => ?_⟩
          by_cases z : k' = k
          · subst z; exact here i' e'
          · exact a2 k' (by omega) b2 i' e'

theorem TOk.of {t t2 : SetTable} {hs : List Int} (T : TOk t hs) (e1 : t2.mask = t.mask) (e2 : t2.place = t.place) (e3 : t2.dummies = t.dummies) : TOk t2 hs :=
  ⟨by rw [e1]; exact T.msk, by rw [e3]; exact T.dum, by rw [e2]; exact T.len, by rw [e2]; exact T.srt, by rw [e1, e2]; exact T.bnd, by rw [e1, e2]; exact T.rch⟩
/-! ### a table laid anew -/
end L2

set_option Elab.async false
set_option linter.all false
set_option maxRecDepth 100000
set_option maxHeartbeats 4000000
namespace L2
open PySem PySem.Spec PyProof.Rows
/-! ### a set of tuples of ints: adding -/
section
variable {prog : Program} {w : World} {A : Around} {E : Value → Shared → Prop} {s : Shared}
theorem wp_forIn_list {M : Model} {α β : Type} (f : α → β → Sem (ForInStep β)) (I : List α → β → Shared → Prop) (Q : β → Shared → Prop)
    (hs : ∀ (x : α) (rest : List α) (b : β) (s : Shared), I (x :: rest) b s → wpAny M A (f x b) (fun r s' => match r with | ForInStep.yield b' => I rest b' s' | ForInStep.done b' => Q b' s') E s)
    (hd : ∀ (b : β) (s : Shared), I [] b s → Q b s) : ∀ (xs : List α) (b : β) (s : Shared), I xs b s → wpAny M A (forIn xs b f) Q E s
  | [], b, s, h => by rw [List.forIn_nil]; exact wpAny_pure (hd b s h)
  | x :: xs, b, s, h => by
    rw [List.forIn_cons]
    refine wpAny_bind ?_
    have := hs x xs b s h
    revert this
    generalize f x b = m
    intro this
    refine wpAny_mono this (fun r s' hr => ?_) (fun _ _ h => h)
    cases r with
    | done b' => exact wpAny_pure hr
    | yield b' => exact wp_forIn_list f I Q hs hd xs b' s' hr
theorem items_val {ks : List Int} {vs : List Value} (h : PySem.ItemsAre (intKind prog w) ks vs) : ∀ v ∈ vs, carriedByValue v = true := by
  induction h with
  | nil => intro v hv; cases hv
  | cons h1 h2 ih =>
    intro v hv
    rcases List.mem_cons.mp hv with rfl | hv
    · exact (intKind prog w).byValue _ _ h1
    · exact ih v hv
theorem noref {v : Value} (h : carriedByValue v = true) : ∀ a, v = Value.ref a → False := fun a e => by subst e; cases h
theorem ofA_tup {k : List Int} {p : Addr} {Q : Bool → Shared → Prop} (h : IsTupleKey (intKind prog w) s.heap k p) (q : Q false s) : wpAny (model prog w) A (ofAClassStatement 8 (.ref p)) Q E s := by
  show wpAny (model prog w) A (ofAClassStatement (7 + 1) (.ref p)) Q E s
  rw [ofAClassStatement.eq_2]
  refine wpAny_bind (wpAny_typeOf h.typeIs ?_)
  obtain ⟨o, items, n, ho, hc, hd, hi⟩ := h
  show wpAny (model prog w) A (if ("tuple" == "tuple") = true then _ else _) Q E s
  refine wpAny_ite_true rfl ?_
  refine wpAny_bind (wpAny_pure ?_)
  refine wpAny_ite_false rfl ?_
  refine wpAny_bind (wpAny_seqItems ho hd ?_)
  refine wpAny_bind ?_
  refine wpAny_forIn_array' _ (fun rest b s' => s' = s ∧ b = (none, ()) ∧ ∀ v ∈ rest, carriedByValue v = true) _ ?_ ?_ items _ ⟨rfl, rfl, items_val hi⟩
  · rintro x rest b s' ⟨rfl, rfl, hv⟩
    rw [ofAClassStatement.eq_3 _ _ (noref (hv x (.head _)))]
    refine wpAny_bind (wpAny_pure ?_)
    refine wpAny_ite_false rfl (wpAny_pure ?_)
    exact ⟨rfl, rfl, fun v h => hv v (.tail _ h)⟩
  · rintro b s' ⟨rfl, rfl, _⟩
    exact wpAny_pure q
theorem seen_no {k : List Int} {q : Addr} {Q : Bool → Shared → Prop} (hk : IsTupleKey (intKind prog w) s.heap k q) {vs : List Value} (hv : ∀ v ∈ vs, ∃ p k', v = .ref p ∧ IsTupleKey (intKind prog w) s.heap k' p) (hQ : Q false s) : wpAny (model prog w) A (searchCouldBeSeen (.ref q) vs) Q E s := by
  unfold searchCouldBeSeen
  refine wpAny_bind ?_
  refine wp_forIn_list _ (fun rest b s' => s' = s ∧ b = (none, ()) ∧ ∀ v ∈ rest, ∃ p k', v = .ref p ∧ IsTupleKey (intKind prog w) s.heap k' p) _ ?_ ?_ vs _ _ ⟨rfl, rfl, hv⟩
  · rintro x rest b s' ⟨rfl, rfl, hv⟩
    obtain ⟨p, k', rfl, hp⟩ := hv x (.head _)
    have hr : ∀ v ∈ rest, ∃ p k', v = .ref p ∧ IsTupleKey (intKind prog w) s'.heap k' p := fun v h => hv v (.tail _ h)
    show wpAny (model prog w) A (if ((q == p) || carriedByValue (Value.ref q) && carriedByValue (Value.ref p)) = true then _ else _) _ E s'
    by_cases c : ((q == p) || carriedByValue (Value.ref q) && carriedByValue (Value.ref p)) = true
    · rw [if_pos c]
      exact wpAny_pure ⟨rfl, rfl, hr⟩
    · rw [if_neg c]
      refine wpAny_bind (wpAny_eqIsQuiet_tuple hk ?_)
      refine wpAny_ite_false rfl ?_
      refine wpAny_bind (wpAny_eqIsQuiet_tuple hp ?_)
      refine wpAny_ite_false rfl ?_
      refine wpAny_bind (ofA_tup hk ?_)
      refine wpAny_ite_false rfl ?_
      refine wpAny_bind (ofA_tup hp ?_)
      refine wpAny_ite_false rfl ?_
      exact wpAny_pure ⟨rfl, rfl, hr⟩
  · rintro b s' ⟨rfl, rfl, _⟩
    exact wpAny_pure hQ
/-- a set of tuples, with its keys -/
structure SetE (prog : Program) (w : World) (h : Heap) (a : Addr) (o : Obj) (es : Array (Int × Value)) (ep : Nat) (t : SetTable) (keys : List (List Int)) : Prop where
  at_ : h.get? a = some o
  ex : o.ExactSet
  dat : o.data = Data.set es ep t
  tab : TOk t (es.toList.map (·.1))
  few : es.size * 5 < t.mask * 3
  sz : es.size = keys.length
  el : ∀ e ∈ es.toList, ∃ p k, k ∈ keys ∧ e = (tupleKeyHash (intKind prog w) k, .ref p) ∧ IsTupleKey (intKind prog w) h k p
  all : ∀ k ∈ keys, ∃ e ∈ es.toList, ∃ p, e = (tupleKeyHash (intKind prog w) k, .ref p) ∧ IsTupleKey (intKind prog w) h k p
theorem SetE.mask {h : Heap} {a : Addr} {o : Obj} {es : Array (Int × Value)} {ep : Nat} {t : SetTable} {keys : List (List Int)} (S : SetE prog w h a o es ep t keys) : Msk t.mask := S.tab.msk
theorem TOk.fits {t : SetTable} {es : Array (Int × Value)} (T : TOk t (es.toList.map (·.1))) (few : es.size ≤ t.mask) : t.fits es.size = true := by
  have l := T.len
  rw [List.length_map, Array.length_toList, Array.length_toList] at l
  unfold SetTable.fits SetTable.fill
  rw [T.dum, l]
  simp
  exact few
theorem SetE.fits {h : Heap} {a : Addr} {o : Obj} {es : Array (Int × Value)} {ep : Nat} {t : SetTable} {keys : List (List Int)} (S : SetE prog w h a o es ep t keys) : t.fits es.size = true := S.tab.fits (by have := S.few; omega)
theorem SetE.gave {h : Heap} {a : Addr} {o : Obj} {es : Array (Int × Value)} {ep : Nat} {t : SetTable} {keys : List (List Int)} (S : SetE prog w h a o es ep t keys) : t.gaveWay = false := by
  unfold SetTable.gaveWay
  rcases S.mask with e | e <;> rw [e] <;> rfl
theorem same_ref (p : Addr) : isSame (.ref p) (.ref p) = pure true := by
  show (if (p == p) = true then pure true else _) = _
  rw [if_pos (beq_self_eq_true p)]
theorem same_mem (t : SetTable) : t.sameMemory t.moves t.mask = some true := by
  unfold SetTable.sameMemory
  rw [if_pos (beq_self_eq_true _)]
theorem search {a : Addr} {o : Obj} {es : Array (Int × Value)} {ep : Nat} {t : SetTable} {keys : List (List Int)} (S : SetE prog w s.heap a o es ep t keys) (hA : A.units < cLine) {k : List Int} {q : Addr} (hk : IsTupleKey (intKind prog w) s.heap k q) {k0 : Nat} (free : wk t.mask (tupleKeyHash (intKind prog w) k) k0 ∉ t.place.toList) (full : ∀ k', k' < k0 → wk t.mask (tupleKeyHash (intKind prog w) k) k' ∈ t.place.toList) (hk0 : k0 < 10 * (t.mask + 14)) {Q : SetFound → Shared → Prop} (q1 : k ∈ keys → Q (.there none) s) (q2 : k ∉ keys → Q (.free (wk t.mask (tupleKeyHash (intKind prog w) k) k0) false) s) :
    ∀ (fuel n : Nat) (stand : Option SetTable.Probe), n ≤ k0 → k0 - n < fuel → stand.getD (t.probeStart (tupleKeyHash (intKind prog w) k)) = stp t.mask (tupleKeyHash (intKind prog w) k) n → (∀ k', k' < n → ∀ (i : Nat) p, t.place.toList[i]? = some (wk t.mask (tupleKeyHash (intKind prog w) k) k') → es.toList[i]? = some (tupleKeyHash (intKind prog w) k, .ref p) → ¬ IsTupleKey (intKind prog w) s.heap k p) → wpAny (model prog w) A (setSearchFrom a (.ref q) (tupleKeyHash (intKind prog w) k) true fuel stand) Q E s
  | 0, n, stand, h1, h2, h3, h4 => by omega
  | fuel + 1, n, stand, h1, h2, h3, h4 => by
    rw [setSearchFrom.eq_2]
    refine wpAny_bind (wpAny_setState_of S.at_ S.dat S.fits ?_)
    show wpAny (model prog w) A (if t.gaveWay = true then _ else _) Q E s
    rw [S.gave]
    refine wpAny_ite_false rfl ?_
    rw [h3]
    have hl := S.tab.len
    rw [List.length_map] at hl
    rcases go_meets S.tab (hashAt := fun i => (Option.map (fun x => x.fst) es[i]?).getD 0) free full (10 * (t.mask + 15)) n h1 (by omega) with ⟨k1, i, b1, b2, b3, b4, b5, b6⟩ | ⟨b1, b2⟩
    · have b5 : t.probe (fun i => (Option.map (fun x => x.fst) es[i]?).getD 0) (tupleKeyHash (intKind prog w) k) (stp t.mask (tupleKeyHash (intKind prog w) k) n) = _ := b5
      show wpAny (model prog w) A (match t.probe (fun i => (Option.map (fun x => x.fst) es[i]?).getD 0) (tupleKeyHash (intKind prog w) k) (stp t.mask (tupleKeyHash (intKind prog w) k) n) with | some met => _ | _ => _) Q E s
      rw [b5]
      have hi : i < es.size := by
        have := (List.getElem?_eq_some_iff.mp b3).1
        rw [hl, Array.length_toList] at this
        exact this
      have ei : es[i]? = some es[i] := Array.getElem?_eq_getElem hi
      have em : es[i] ∈ es.toList := by rw [Array.mem_toList_iff]; exact Array.getElem_mem hi
      obtain ⟨p, k', hk', eq, hp⟩ := S.el _ em
      rw [eq] at ei em
      have hh : tupleKeyHash (intKind prog w) k' = tupleKeyHash (intKind prog w) k := by
        rw [ei] at b4
        exact b4
      have inv : ¬ k' = k → ∀ k'', k'' < k1 + 1 → ∀ (i' : Nat) p', t.place.toList[i']? = some (wk t.mask (tupleKeyHash (intKind prog w) k) k'') → es.toList[i']? = some (tupleKeyHash (intKind prog w) k, .ref p') → ¬ IsTupleKey (intKind prog w) s.heap k p' := fun ne k'' hk'' i' p' e1 e2 hp' => by
        by_cases c1 : k'' < n
        · exact h4 k'' c1 i' p' e1 e2 hp'
        · by_cases c2 : k'' < k1
          · have := b6 k'' (by omega) c2 i' e1
            rw [← Array.getElem?_toList, e2] at this
            exact this rfl
          · have : k'' = k1 := by omega
            subst this
            have x1 := below_at S.tab.srt (i := i') (by rw [← Array.getElem?_toList]; exact e1)
            have x2 := below_at S.tab.srt (i := i) (by rw [← Array.getElem?_toList]; exact b3)
            have : i' = i := by omega
            subst this
            rw [Array.getElem?_toList, ei] at e2
            have := (Prod.mk.inj (Option.some.inj e2)).2
            cases this
            exact ne (IsTupleKey.inj hp hp')
      refine wpAny_ite ?_
      split
      · refine wpAny_bind (seen_no hk (fun v hv => ?_) ?_)
        · obtain ⟨z, hz, rfl⟩ := List.mem_map.mp hv
          obtain ⟨hz, _⟩ := Array.mem_filter.mp (Array.mem_toList_iff.mp hz)
          obtain ⟨p2, k2, _, e2, h2⟩ := S.el z (Array.mem_toList_iff.mpr hz)
          exact ⟨p2, k2, by rw [e2], h2⟩
        refine wpAny_ite_false rfl ?_
        rw [ei]
        refine wpAny_bind (wpAny_holding (wpAny_eqBool_tuple hA hp hk ?_))
        refine wpAny_bind (wpAny_setState_of S.at_ S.dat S.fits ?_)
        by_cases e : k' = k
        · rw [decide_eq_true e]
          exact wpAny_ite_true rfl (wpAny_pure (q1 (e ▸ hk')))
        · rw [decide_eq_false e]
          refine wpAny_ite_false rfl ?_
          rw [same_mem]
          show wpAny (model prog w) A (match t.slot (wk t.mask (tupleKeyHash (intKind prog w) k) k1) with | SetTable.Slot.live i' => _ | x => _) Q E s
          rw [slot_live S.tab.srt (i := i) (by rw [← Array.getElem?_toList]; exact b3)]
          show wpAny (model prog w) A (match es[i]? with | some (fst, y') => _ | none => _) Q E s
          rw [ei]
          refine wpAny_bind (wpAny_of_eq (same_ref p) ?_)
          refine wpAny_bind (wpAny_pure ?_)
          refine wpAny_ite_false rfl ?_
          exact search S hA hk free full hk0 q1 q2 fuel (k1 + 1) (some _) (by omega) (by omega) rfl (inv e)
      · rw [ei]
        refine wpAny_bind (wpAny_holding (wpAny_eqBool_tuple hA hp hk ?_))
        refine wpAny_bind (wpAny_setState_of S.at_ S.dat S.fits ?_)
        by_cases e : k' = k
        · rw [decide_eq_true e]
          exact wpAny_ite_true rfl (wpAny_pure (q1 (e ▸ hk')))
        · rw [decide_eq_false e]
          refine wpAny_ite_false rfl ?_
          rw [same_mem]
          show wpAny (model prog w) A (match t.slot (wk t.mask (tupleKeyHash (intKind prog w) k) k1) with | SetTable.Slot.live i' => _ | x => _) Q E s
          rw [slot_live S.tab.srt (i := i) (by rw [← Array.getElem?_toList]; exact b3)]
          show wpAny (model prog w) A (match es[i]? with | some (fst, y') => _ | none => _) Q E s
          rw [ei]
          refine wpAny_bind (wpAny_of_eq (same_ref p) ?_)
          refine wpAny_bind (wpAny_pure ?_)
          refine wpAny_ite_false rfl ?_
          exact search S hA hk free full hk0 q1 q2 fuel (k1 + 1) (some _) (by omega) (by omega) rfl (inv e)
    · have b1 : t.probe (fun i => (Option.map (fun x => x.fst) es[i]?).getD 0) (tupleKeyHash (intKind prog w) k) (stp t.mask (tupleKeyHash (intKind prog w) k) n) = _ := b1
      show wpAny (model prog w) A (match t.probe (fun i => (Option.map (fun x => x.fst) es[i]?).getD 0) (tupleKeyHash (intKind prog w) k) (stp t.mask (tupleKeyHash (intKind prog w) k) n) with | some met => _ | _ => _) Q E s
      rw [b1]
      refine wpAny_pure (q2 fun hin => ?_)
      obtain ⟨e, he, p, rfl, hp⟩ := S.all k hin
      obtain ⟨i, ei⟩ := List.getElem?_of_mem he
      obtain ⟨kx, r1, r2⟩ := S.tab.rch i (tupleKeyHash (intKind prog w) k) (by rw [List.getElem?_map, ei]; rfl)
      have lt : kx < k0 := by
        by_cases z : kx < k0
        · exact z
        · exfalso
          by_cases z2 : kx = k0
          · subst z2
            exact free (List.mem_of_getElem? r1)
          · exact free (r2 k0 (by omega))
      by_cases c : kx < n
      · exact h4 kx c i p r1 ei hp
      · have := b2 kx (by omega) lt i r1
        rw [← Array.getElem?_toList, ei] at this
        exact this rfl

end
end L2

set_option Elab.async false
set_option linter.all false
set_option maxRecDepth 100000
set_option maxHeartbeats 4000000
namespace L2
open PySem PySem.Spec PyProof.Rows
/-! ### set(xs) of a list of tuples of ints -/
section
variable {prog : Program} {w : World} {A : Around} {E : Value → Shared → Prop} {s : Shared}
theorem tk_mono {h h' : Heap} {k : List Int} {p : Addr} (hk : IsTupleKey (intKind prog w) h k p) (m : ∀ o, h.get? p = some o → h'.get? p = some o) : IsTupleKey (intKind prog w) h' k p := by
  obtain ⟨o, i, n, g, c, d, x⟩ := hk
  exact ⟨o, i, n, m o g, c, d, x⟩
theorem SetE.mono {h h' : Heap} {a : Addr} {o : Obj} {es : Array (Int × Value)} {ep : Nat} {t : SetTable} {keys : List (List Int)} (S : SetE prog w h a o es ep t keys) (m : ∀ b o, h.get? b = some o → h'.get? b = some o) : SetE prog w h' a o es ep t keys :=
  ⟨m _ _ S.at_, S.ex, S.dat, S.tab, S.few, S.sz, fun e he => by obtain ⟨p, k, h1, h2, h3⟩ := S.el e he; exact ⟨p, k, h1, h2, tk_mono h3 fun o g => m _ o g⟩, fun k hk => by obtain ⟨e, he, p, h2, h3⟩ := S.all k hk; exact ⟨e, he, p, h2, tk_mono h3 fun o g => m _ o g⟩⟩
end
end L2

set_option Elab.async false
set_option linter.all false
set_option maxRecDepth 100000
set_option maxHeartbeats 4000000
namespace L2
open PySem PySem.Spec PyProof.Rows PySem.W
/-! ### len(set(xs)) of a list of pairs of ints -/
section
variable {X : Cx} {K : PySem.W.Frag}
end
end L2

set_option Elab.async false
set_option linter.all false
set_option maxRecDepth 100000
set_option maxHeartbeats 4000000
namespace L2
open PySem PySem.Spec PyProof.Rows PySem.W
/-! ### sorted of a list of pairs, of a dict's ints -/
section
variable {prog : Program} {w : World} {A : Around} {E : Value → Shared → Prop} {s : Shared}
end
section
variable {X : Cx} {K : PySem.W.Frag}
end
end L2

set_option Elab.async false
set_option linter.all false
set_option maxRecDepth 100000
set_option maxHeartbeats 2000000
namespace L2
open PySem PySem.Spec PyProof.Rows
/-! ### methods of texts: join, split, startswith -/
section
variable {X : Cx} {K : PySem.W.Frag}
def qSM (r : Str → List V → Hp → VK → Prop) (to : TE) (t : TA) : TE := fun σ H Q => to σ H fun x H1 => match x with
  | .str p => t σ H1 fun xs H2 => r p xs H2 Q
  | _ => False
def MtS (X : Cx) (id : String) (r : Str → List V → Hp → VK → Prop) : Prop :=
  ∀ (pins : List (Addr × Obj)) (s : Shared) (σ : St) (H : Hp) (p : Str) (tk : Tok) (xs : List V) (us : List Value) (Q : VK), Inv X pins σ H s → Vals xs us → r p xs H Q →
    wpAny (model X.prog X.w) X.A (call (.builtin id) (.str p tk :: us)) (EP X pins σ Q) X.xe s
theorem peSM {o e : Expr} {es : List Expr} {to : TE} {t : TA} {name : Str} {apos cpos : Pos} {id : String} {r : Str → List V → Hp → VK → Prop} (slot : Slot "str" name id) (hty : typeOf (.builtin id) = pure (.type "method_descriptor")) (hm : MtS X id r) (ho : PE X o to) (ha : PA X (e :: es) t)
    (hbase : attributeBase o name X.env (eval o X.env) = eval o X.env := by rfl)
    (hfew : ((backTo cpos (starEach (e :: es) X.env)).all (fun x => !x.1) && (backToKw cpos (keywordEach [] X.env)).all (fun x => x.1.isSome)
      && decide ((e :: es).length + ([] : List Keyword).length + (if ([] : List Keyword).isEmpty then 0 else 1) < 30)) = true := by rfl)
    (hline : (apos.endLine == cpos.line) = true := by rfl) (hs : starEach (e :: es) X.env = (false, eval e X.env) :: starEach es X.env := by rfl) (hplain : (backTo cpos (starEach es X.env)).any (·.1) = false := by rfl) :
    PE X (.Call (.Attribute o name apos) (e :: es) [] cpos) (qSM r to t) := by
  intro pins s σ H Q I h
  refine wpAny_Call_method_late hbase hfew hline rfl (thn (ho pins s σ H _ I h) fun v s1 ⟨x, H1, I1, r1, q1⟩ => ?_)
  dsimp only at q1
  split at q1
  · rename_i p
    obtain ⟨h1, h2⟩ := tyV_is (T := "str") I1 r1 rfl
    refine ⟨"str", id, PySem.F.plainAttrs_str, slot, hty, h1, h2, ?_⟩
    have hA := ha cpos pins s1 σ H1 _ I1 q1
    rw [hs] at hA ⊢
    refine Calls.callWith_builtin (by show (false || (backTo cpos (starEach es X.env)).any (·.1)) = false; rw [hplain] <;> rfl) (Calls.evalArgs_plain ?_)
    obtain ⟨tk, rfl⟩ := r1
    exact thn hA fun us s2 ⟨vs, H2, I2, r2, q2⟩ => hm pins s2 σ H2 p tk vs us Q I2 r2 q2
  · exact q1.elim
/- join -/
theorem strs_are : ∀ {ys : List Str} {us : List Value}, Vals (ys.map V.str) us → StrsAre us ys
  | [], us, h => by cases h; exact .nil
  | y :: ys, us, h => by
    cases h with
    | cons h1 h2 =>
      obtain ⟨t, rfl⟩ := h1
      exact .cons y t (strs_are h2)
@[irreducible] def rJoinA (K : PySem.W.Frag) (x : Str) (p : Addr) (H : Hp) (Q : VK) : Prop := ∃ ys : List Str, SqL K H p (ys.map V.str) ∧ (ys.map (·.length)).sum + ys.length * x.length ≤ 16777216 ∧ Q (.str (Txt.join x ys)) H
def rJoinM (K : PySem.W.Frag) : Str → List V → Hp → VK → Prop := fun x vs H Q => match vs with
  | [.ref p] => rJoinA K x p H Q
  | _ => False
theorem mJoin : MtS X "str.join" (rJoinM X.K) := fun pins s σ H x tk xs us Q I r h => by
  unfold rJoinM at h
  split at h
  · unfold rJoinA at h
    obtain ⟨ys, h1, h2, q⟩ := h
    obtain ⟨u, rfl, r1⟩ := vals1 r
    cases r1
    obtain ⟨its, r2, pl, _⟩ := I.list h1
    exact join_list pl.isList (strs_are r2) h2 fun t' k => ⟨.str _, H, I.tok _, ⟨_, rfl⟩, q⟩
  · exact h.elim
theorem join_rd {x : Str} {p : Addr} {H : Hp} {Q : VK} {ys : List Str} (h : H p = some (.lst (ys.map V.str))) (hz : (ys.map (·.length)).sum + ys.length * x.length ≤ 16777216) (q : Q (.str (Txt.join x ys)) H) : rJoinA K x p H Q := by unfold rJoinA; exact ⟨ys, SqL.of h, hz, q⟩
theorem peM_join {o e : Expr} {to : TE} {t : TA} {apos cpos : Pos} (hK : X.K = K) (ho : PE X o to) (ha : PA X [e] t) (hbase : attributeBase o "join" X.env (eval o X.env) = eval o X.env := by rfl)
    (hfew : ((backTo cpos (starEach [e] X.env)).all (fun x => !x.1) && (backToKw cpos (keywordEach [] X.env)).all (fun x => x.1.isSome)
      && decide ([e].length + ([] : List Keyword).length + (if ([] : List Keyword).isEmpty then 0 else 1) < 30)) = true := by rfl)
    (hline : (apos.endLine == cpos.line) = true := by rfl) (hs : starEach [e] X.env = (false, eval e X.env) :: starEach [] X.env := by rfl) (hplain : (backTo cpos (starEach [] X.env)).any (·.1) = false := by rfl) : PE X (.Call (.Attribute o "join" apos) [e] [] cpos) (qSM (rJoinM K) to t) := by
  subst hK
  exact peSM PySem.F.slot_str_join PySem.F.type_str_join mJoin ho ha hbase hfew hline hs hplain
/- split -/
theorem vals_from : ∀ (ys : List Str) (k : Nat), Vals (ys.map V.str) (strsFrom k ys)
  | [], _ => .nil
  | y :: ys, k => .cons ⟨_, rfl⟩ (vals_from ys (k + 1))
@[irreducible] def rSplitA (x y : Str) (H : Hp) (Q : VK) : Prop := (y.length == 0) = false ∧ x.length + 2 ≤ sizeLine ∧ ∀ l H', H l = none → Same H H' → H' l = some (.lst ((Txt.split x y).map V.str)) → Q (.ref l) H'
def rSplitM : Str → List V → Hp → VK → Prop := fun x vs H Q => match vs with
  | [.str y] => rSplitA x y H Q
  | _ => False
theorem mSplit : MtS X "str.split" rSplitM := fun pins s σ H x tk xs us Q I r h => by
  unfold rSplitM at h
  split at h
  · rename_i y
    unfold rSplitA at h
    obtain ⟨h1, h2, q⟩ := h
    obtain ⟨u, rfl, r1⟩ := vals1 r
    obtain ⟨t, rfl⟩ := r1
    have sl := split_le x y
    have one : Txt.split x y = [x] → EP X pins σ Q (.ref s.heap.objs.size) { s with heap := s.heap.push { cls := .type "list", data := .seq #[.str x tk] }, toks := s.toks } := fun e =>
      ⟨.ref _, _, I.lnew (t' := s.toks) (ys := [.str x]) (its := [.str x tk]) (.cons ⟨_, rfl⟩ .nil) (by rw [List.length_singleton]; omega), rfl, q _ _ I.fresh (Same.upd I.fresh) (by rw [upd_same, e]; rfl)⟩
    by_cases c1 : (decide (x.length < y.length) || decide (Builtin.Str.strKind x < Builtin.Str.strKind y)) = true
    · exact call_meets F.slot_str_split (typeIs_str s x tk) F.entry_str_split (F.args_str_split_2 _ _) (meets_str_split_cannot_occur x y tk t c1) (one (by unfold Txt.split; rw [if_pos c1]))
    · have c1' := Bool.eq_false_iff.mpr c1
      by_cases c2 : (Builtin.Str.occurrences x y 0 x.length (x.length + 1)).isEmpty = true
      · exact call_meets F.slot_str_split (typeIs_str s x tk) F.entry_str_split (F.args_str_split_2 _ _) (meets_str_split_not_found x y tk t c1' h1 c2) (one (by unfold Txt.split; rw [if_neg c1, if_pos c2]))
      · have c2' := Bool.eq_false_iff.mpr c2
        have e : Txt.split x y = Builtin.Str.partsBetween x (Builtin.Str.occurrences x y 0 x.length (x.length + 1)) y.length := by unfold Txt.split; rw [if_neg c1, if_neg c2]
        rw [e] at q sl
        refine call_meets F.slot_str_split (typeIs_str s x tk) F.entry_str_split (F.args_str_split_2 _ _) (meets_str_split_sep x y tk t c1' h1 c2' (by omega) (by omega)) ?_
        exact ⟨.ref _, _, I.lnew (vals_from _ s.toks) (by rw [List.length_map]; omega), rfl, q _ _ I.fresh (Same.upd I.fresh) upd_same⟩
  · exact h.elim
theorem split_rd {x y : Str} {H : Hp} {Q : VK} (h1 : (y.length == 0) = false) (h2 : x.length + 2 ≤ sizeLine) (q : ∀ l H', H l = none → Same H H' → H' l = some (.lst ((Txt.split x y).map V.str)) → Q (.ref l) H') : rSplitA x y H Q := by unfold rSplitA; exact ⟨h1, h2, q⟩
theorem peM_split {o e : Expr} {to : TE} {t : TA} {apos cpos : Pos} (hK : X.K = K) (ho : PE X o to) (ha : PA X [e] t) (hbase : attributeBase o "split" X.env (eval o X.env) = eval o X.env := by rfl)
    (hfew : ((backTo cpos (starEach [e] X.env)).all (fun x => !x.1) && (backToKw cpos (keywordEach [] X.env)).all (fun x => x.1.isSome)
      && decide ([e].length + ([] : List Keyword).length + (if ([] : List Keyword).isEmpty then 0 else 1) < 30)) = true := by rfl)
    (hline : (apos.endLine == cpos.line) = true := by rfl) (hs : starEach [e] X.env = (false, eval e X.env) :: starEach [] X.env := by rfl) (hplain : (backTo cpos (starEach [] X.env)).any (·.1) = false := by rfl) : PE X (.Call (.Attribute o "split" apos) [e] [] cpos) (qSM rSplitM to t) :=
  peSM PySem.F.slot_str_split PySem.F.type_str_split mSplit ho ha hbase hfew hline hs hplain
/- startswith -/
def rStartM : Str → List V → Hp → VK → Prop := fun x vs H Q => match vs with
  | [.str y] => Q (.bl (Txt.startswith x y)) H
  | _ => False
theorem mStart : MtS X "str.startswith" rStartM := fun pins s σ H x tk xs us Q I r h => by
  unfold rStartM at h
  split at h
  · rename_i y
    obtain ⟨u, rfl, r1⟩ := vals1 r
    obtain ⟨t, rfl⟩ := r1
    exact call_gives F.slot_str_startswith (typeIs_str s x tk) F.entry_str_startswith (F.args_str_startswith_2 _ _) (gives_str_startswith x y tk t) ⟨.bl _, H, I, rfl, h⟩
  · exact h.elim
theorem peM_startswith {o e : Expr} {to : TE} {t : TA} {apos cpos : Pos} (hK : X.K = K) (ho : PE X o to) (ha : PA X [e] t) (hbase : attributeBase o "startswith" X.env (eval o X.env) = eval o X.env := by rfl)
    (hfew : ((backTo cpos (starEach [e] X.env)).all (fun x => !x.1) && (backToKw cpos (keywordEach [] X.env)).all (fun x => x.1.isSome)
      && decide ([e].length + ([] : List Keyword).length + (if ([] : List Keyword).isEmpty then 0 else 1) < 30)) = true := by rfl)
    (hline : (apos.endLine == cpos.line) = true := by rfl) (hs : starEach [e] X.env = (false, eval e X.env) :: starEach [] X.env := by rfl) (hplain : (backTo cpos (starEach [] X.env)).any (·.1) = false := by rfl) : PE X (.Call (.Attribute o "startswith" apos) [e] [] cpos) (qSM rStartM to t) :=
  peSM PySem.F.slot_str_startswith PySem.F.type_str_startswith mStart ho ha hbase hfew hline hs hplain
end
end L2

set_option Elab.async false
set_option linter.all false
set_option maxRecDepth 100000
set_option maxHeartbeats 2000000
namespace L2
open PySem PySem.Spec PyProof.Rows
/-! ### texts walked, cut, held against one another, read as numbers -/
section
variable {X : Cx} {K : PySem.W.Frag}
/-- the signs of a text -/
def Its (x : Str) : It := ⟨fun i _ => i < x.cps.size, fun i H v H' => H' = H ∧ ∃ c, x.cps[i]? = some c ∧ v = .str ⟨#[c]⟩, fun i _ => x.cps.size ≤ i⟩
theorem go_str {M : Model} {A : Around} {E : Value → Shared → Prop} {s : Shared} {tg : Expr} {it : Addr} {x : Str} {t : Tok} {Q : Unit → Shared → Prop} (hQ : Q () s) : wpAny M A (letOwnedTupleGo tg (.ref it) (.str x t)) Q E s := by
  unfold letOwnedTupleGo
  cases tg <;> exact wpAny_pure hQ
theorem turn_str {P : Program} {w : World} {K : PySem.W.Frag} {tg : Expr} (x : Str) (tx : Tok) (it : Addr) : Turn P w K tg (Its x) [it] it (fun i h => h.IsStrIter it (strIterType x) x tx i) where
  mem := by simp
  obj := fun i h st b hb => by
    have e : b = it := by simpa using hb
    subst e
    obtain ⟨o, e, c, d⟩ := st
    exact ⟨o, e, fun v z => by rw [d] at z; cases z⟩
  keep := fun i h h' st k => by
    obtain ⟨o, e, c, d⟩ := st
    exact ⟨o, k it (by simp) o e, c, d⟩
  item := by
    intro X hP hw hK hc i pins s σ H E I hf st hg
    subst hP hw hK
    have hg : i < x.cps.size := hg
    obtain ⟨c, ec⟩ : ∃ c, x.cps[i]? = some c := ⟨_, Array.getElem?_eq_getElem hg⟩
    obtain ⟨f0, f1, f2, f3, f4, f5⟩ := hf it (by simp)
    have fin : ∀ h', h'.IsStrIter it (strIterType x) x tx (i + 1) → Heap.SameBut it s.heap h' → ∃ u, some (Value.str ⟨#[c]⟩ s.toks) = some u ∧ wpAny (model X.prog X.w) X.A (letOwnedTupleGo tg (.ref it) u) (fun _ s2 => ∃ v H', Inv X pins σ H' s2 ∧ RelV v u ∧ (Its x).yld i H v H' ∧ s2.heap.IsStrIter it (strIterType x) x tx (i + 1) ∧ ∀ b ∈ [it], H' b = none) E { s with heap := h', toks := s.toks + 1 } := fun h' st' sb =>
      ⟨_, rfl, go_str ⟨.str ⟨#[c]⟩, H, I.turned (t' := s.toks + 1) (fun b o hb e => (sb.2 b hb).trans e) f0 f1 f3 f4 f5, ⟨_, rfl⟩, ⟨rfl, c, ec, rfl⟩, st', fun b hb => (hf b hb).1⟩⟩
    by_cases ha : (x.cps.all fun x => decide (x < 128)) = true
    · have e : strIterType x = "str_ascii_iterator" := by unfold strIterType; rw [if_pos ha]
      rw [e] at st
      exact wpAny_pyNext_ascii_item st ec fun h' st' sb => fin h' (by rw [e]; exact st') sb
    · have e : strIterType x = "str_iterator" := by unfold strIterType; rw [if_neg ha]
      rw [e] at st
      exact wpAny_pyNext_wide_item st ec fun h' st' sb => fin h' (by rw [e]; exact st') sb
  done := by
    intro X hP hw hK hc i pins s σ H E I hf st hg
    subst hP hw hK
    have hg : x.cps.size ≤ i := hg
    have ec : x.cps[i]? = none := Array.getElem?_eq_none hg
    obtain ⟨f0, f1, f2, f3, f4, f5⟩ := hf it (by simp)
    by_cases ha : (x.cps.all fun x => decide (x < 128)) = true
    · have e : strIterType x = "str_ascii_iterator" := by unfold strIterType; rw [if_pos ha]
      rw [e] at st
      exact wpAny_pyNext_ascii_end (I.ok.hd hc) st ec fun h' eb => ⟨rfl, I.turned (t' := s.toks) (fun b o hb e => eb b o hb e) f0 f1 f3 f4 f5⟩
    · have e : strIterType x = "str_iterator" := by unfold strIterType; rw [if_neg ha]
      rw [e] at st
      exact wpAny_pyNext_wide_end (I.ok.hd hc) st ec fun h' eb => ⟨rfl, I.turned (t' := s.toks) (fun b o hb e => eb b o hb e) f0 f1 f3 f4 f5⟩
  self := fun A i s Q E st h => by
    by_cases ha : (x.cps.all fun x => decide (x < 128)) = true
    · have e : strIterType x = "str_ascii_iterator" := by unfold strIterType; rw [if_pos ha]
      rw [e] at st
      exact wpAny_pyIter_striter_ascii st h
    · have e : strIterType x = "str_iterator" := by unfold strIterType; rw [if_neg ha]
      rw [e] at st
      exact wpAny_pyIter_striter_wide st h
@[irreducible] def rIterS (x : Str) (H : Hp) (R : It → Hp → Prop) : Prop := R (Its x) H
def qiStr (tl : TE) : TI := fun σ H R => tl σ H fun x H1 => match x with
  | .str z => rIterS z H1 R
  | _ => False
theorem piStr {tg l : Expr} {tl : TE} (hl : PE X l tl) : PI X tg l (qiStr tl) := by
  intro pins s σ H R I h
  refine thn (hl pins s σ H _ I h) fun v s1 ⟨x, H1, I1, r1, q1⟩ => ?_
  dsimp only at q1
  split at q1
  · rename_i z
    unfold rIterS at q1
    obtain ⟨t, rfl⟩ := r1
    have fp : ∀ b ∈ [s1.heap.objs.size], FpOk X pins H1 b := fun b hb => by
      have e : b = s1.heap.objs.size := by simpa using hb
      subst e
      exact I1.fpOk (Nat.le_refl _) (I1.hok.fresh (Nat.le_refl _))
    refine wpAny_pyIter_strU ?_
    exact ⟨s1.heap.objs.size, [s1.heap.objs.size], _, _, H1, rfl, I1.kept (t' := s1.toks) fun b o e => Heap.get?_push_of_some _ e, turn_str z t _, ⟨_, Heap.get?_push_size _ rfl, rfl, rfl⟩, fp, q1⟩
  · exact q1.elim
theorem iterS_rd {x : Str} {H : Hp} {R : It → Hp → Prop} (q : R (Its x) H) : rIterS x H R := by unfold rIterS; exact q
theorem Wk.str {x : Str} {H1 : Hp} : Wk (Its x) x.cps.size H1 fun i v _ => ∃ c, x.cps[i]? = some c ∧ v = .str ⟨#[c]⟩ :=
  ⟨fun i H s hi => hi, fun H s => Nat.le_refl _, fun i H v H' s _ y => by
    obtain ⟨e, y⟩ := y
    subst e
    exact ⟨Same.refl _, y⟩⟩
/- a[lo:hi] of a text -/
def rSlZM (K : PySem.W.Frag) : V → Option Int → Option Int → Hp → VK → Prop := fun x lo hi H Q => match x with
  | .ref a => rSlX K a lo hi H Q
  | .str z => z.length ≤ sizeLine ∧ Q (.str (Txt.slice z lo hi)) H
  | _ => False
theorem part_of {v : Value} {o : Option Int} (p : IsPart v o) : ∃ q : Option (Int × Tok), v = partValue q ∧ q.map (·.1) = o := by
  cases p with
  | none => exact ⟨none, rfl, rfl⟩
  | int i t => exact ⟨some (i, t), rfl, rfl⟩
theorem slZK (hK : X.K = K) : SlR X (rSlZM K) := by
  subst hK
  intro pins s σ H x v vl vu lo hi sl Q I rx hs pl pu h
  unfold rSlZM at h
  split at h
  · exact slX pins s σ H _ v vl vu lo hi sl Q I rx hs pl pu h
  · rename_i z
    obtain ⟨hz, q⟩ := h
    obtain ⟨t, rfl⟩ := rx
    obtain ⟨ql, rfl, el⟩ := part_of pl
    obtain ⟨qu, rfl, eu⟩ := part_of pu
    refine ⟨"str", _, slot_str_getitem.lookup, typeIs_str s z t, wpAny_getItem_str_slice (st := none) hs rfl ?_⟩
    unfold sliceMade slicePicked
    rw [el, eu]
    have le := Txt.slice_le z lo hi
    unfold Txt.slice at q le
    show Made.post (if (1 == 1 && (Builtin.Str.strSliceIndices lo hi 1 z.length).length == z.length) = true then _ else _) _ s
    split
    · rename_i c
      rw [if_pos c] at q
      exact ⟨.str z, H, I, ⟨_, rfl⟩, q⟩
    · rename_i c
      rw [if_neg c] at q le
      exact ⟨Nat.le_trans le hz, .str _, H, I.tok _, ⟨_, rfl⟩, q⟩
  · exact h.elim
/- y in x, both texts -/
def hasS (x y : Str) : Bool := !(Builtin.Str.occurrences x y 0 x.length 1).isEmpty
def rInZM (K : PySem.W.Frag) : R2 := fun x y H Q => match x, y with
  | .str a, .str b => Q (.bl (hasS b a)) H
  | x, y => rInM K false x y H Q
theorem oInZK (hK : X.K = K) : OpR X (compareOp .In) (rInZM K) := by
  intro pins s σ H x y v u Q I rx ry h
  unfold rInZM at h
  split at h
  · obtain ⟨t, rfl⟩ := rx
    obtain ⟨t', rfl⟩ := ry
    exact P.in_str ⟨.bl _, H, I, rfl, h⟩
  · exact oInK hK pins s σ H _ _ v u Q I rx ry h
/- int(x) of a text -/
end
end L2

set_option Elab.async false
set_option linter.all false
set_option maxRecDepth 100000
set_option maxHeartbeats 2000000
namespace L2
open PySem PySem.Spec PyProof.Rows
/-! ### a def handed on as a value, and called by the name of what was handed in -/
section
variable {X : Cx} {K : PySem.W.Frag}
@[irreducible] def isFn (mg : Str → Option Value) (x : Str) (v : V) : Prop := ∃ f, v = .ref f ∧ mg x = some (.ref f)
@[irreducible] def rFn (mg : Str → Option Value) (x : Str) (H : Hp) (Q : VK) : Prop := ∀ v, isFn mg x v → Q v H
def qFn (mg : Str → Option Value) (x : Str) : TE := fun _ H Q => rFn mg x H Q
theorem peFn {CX : CXT} {k : Nat} {x : Str} {ps : List Str} {sp : Sp} {pos : Pos} (F : Def X.prog X.w X.K X.mg X.base CX k x ps sp) (hg : Gl X x := by rfl) (hdb : (x == ("__debug__" : Str)) = false := by decide) : PE X (.Name x pos) (qFn X.mg x) := by
  obtain ⟨f, fd, F1, F2, F3, F4⟩ := F.ex
  intro pins s σ H Q I h
  unfold qFn rFn at h
  exact ld_glob I hg F2 ⟨.ref f, H, I, rfl, h _ (by unfold isFn; exact ⟨f, rfl, F2⟩)⟩ hdb
theorem fn_rd {mg : Str → Option Value} {x : Str} {H : Hp} {Q : VK} (q : ∀ v, isFn mg x v → Q v H) : rFn mg x H Q := by unfold rFn; exact q
def qCallL (mg : Str → Option Value) (x : Str) (i : Nat) (sp : Sp) (E : XK) (t : TA) : TE := fun σ H Q => match σ[i]? with
  | some (some v) => isFn mg x v ∧ t σ H fun vs H1 => sp vs H1 Q E
  | _ => False
theorem pDL {CX : CXT} {k j i : Nat} {x y : Str} {ps : List Str} {sp : Sp} {E : XK} {p pos : Pos} {e : Expr} {es : List Expr} {t : TA} (F : Def X.prog X.w X.K X.mg X.base CX k x ps sp) (hr : Room j X.A) (hx : Passes CX X E) (ha : PA X (e :: es) t) (hk : k ≤ j := by decide)
    (hN : X.N[i]? = some y := by rfl) (hv : Vis X.env.scope y := by first | exact Or.inl rfl | exact Or.inr (Or.inl rfl) | exact Or.inr (Or.inr rfl)) (hd : (y == ("__debug__" : Str)) = false := by decide) (hcd : (y == ("__classdict__" : Str)) = false := by decide)
    (he : starEach (e :: es) X.env = (false, eval e X.env) :: starEach es X.env := by rfl) (hpl : (backTo pos (starEach es X.env)).any (·.1) = false := by rfl) :
    PE X (.Call (.Name y p) (e :: es) [] pos) (qCallL X.mg x i sp E t) := by
  obtain ⟨f, fd, F1, F2, F3, F4⟩ := F.ex
  intro pins s σ H Q I h
  unfold qCallL at h
  split at h
  · rename_i v ev
    obtain ⟨hf, h⟩ := h
    unfold isFn at hf
    obtain ⟨f', rfl, F2'⟩ := hf
    cases F2.symm.trans F2'
    obtain ⟨m, hn, hl⟩ := I.loc
    obtain ⟨u, r, l⟩ := hl i y _ hN ev hv
    obtain rfl : u = Value.ref f := r
    have fin : wpAny (model X.prog X.w) X.A (callWith pos (.ref f) [] (backTo pos (starEach (e :: es) X.env)) (backToKw pos (keywordEach [] X.env))) (EP X pins σ Q) X.xe s := by
      refine PySem.W.callWith_K (h₀ := X.base) I.ok.mod.kin F3 (thn (ha pos pins s σ H _ I h) fun us s1 ⟨vs, H1, I1, r, q⟩ => ⟨I1.kIn, ?_⟩) he hpl
      refine run_fn F1 (hr.mono hk) F4 .nil hx I1 r ?_
      simp only [List.append_nil]
      exact q
    refine wpAny_Call_Name_kw ?_
    rcases l with ⟨hk, hm⟩ | ⟨hk, c, hc, hcell⟩
    · exact wpAny_Name (wpAny_loadName_local I.ok.kind hk hn hm fin) hd
    · rcases hk with hk | hk
      · exact wpAny_Name (wpAny_loadName_cell I.ok.kind hk hc hcell fin) hd
      · exact wpAny_Name (wpAny_loadName_free I.ok.kind hk hc hcell fin hcd) hd
  · exact h.elim
/-! ### x in a tuple of tuples -/
@[irreducible] def rInTT (K : PySem.W.Frag) (a p : Addr) (H : Hp) (Q : VK) : Prop := ∃ (rs : List Addr) (c : Addr → Bool) (n : Nat), SqT K H p (rs.map V.ref) ∧ n ≤ 38 ∧ (∀ r ∈ rs, EqR K H n (.ref r) (.ref a) (c r)) ∧ Q (.bl (rs.any c)) H
def rInTTM (K : PySem.W.Frag) : R2 := fun x y H Q => match x, y with
  | .ref a, .ref p => rInTT K a p H Q
  | x, y => rInZM K x y H Q
theorem oInTTK (hK : X.K = K) (hu : X.A.units + 40 < cLine) : OpR X (compareOp .In) (rInTTM K) := by
  subst hK
  intro pins s σ H x y v u Q I rx ry h
  unfold rInTTM at h
  split at h
  · unfold rInTT at h
    obtain ⟨rs, c, n, h1, h2, h3, h4⟩ := h
    cases rx
    cases ry
    obtain ⟨its, r, pl, hz⟩ := I.tuple h1
    have e := vals_refs r
    subst e
    refine SeqAt.in_tupleAt (eRef c) pl (fun w hw => ?_) ⟨.bl _, H, I, rfl, ?_⟩
    · obtain ⟨q, hq, rfl⟩ := List.mem_map.mp (by simpa using hw)
      exact EqR.at I (h3 q hq) rfl rfl (by rw [in1_units]; omega)
    · have e2 : (rs.map Value.ref).toArray.any (eRef c) = rs.any c := by
        rw [List.any_toArray, List.any_map]; rfl
      rw [e2]
      exact h4
  · exact oInZK rfl pins s σ H _ _ v u Q I rx ry h
theorem inTT_rd {a p : Addr} {H : Hp} {Q : VK} {rs : List Addr} {c : Addr → Bool} (n : Nat) (h1 : H p = some (.tup (rs.map V.ref))) (h2 : n ≤ 38) (h3 : ∀ r ∈ rs, EqR K H n (.ref r) (.ref a) (c r)) (q : Q (.bl (rs.any c)) H) : rInTT K a p H Q := by unfold rInTT; exact ⟨rs, c, n, SqT.of h1, h2, h3, q⟩
end
end L2

set_option Elab.async false
set_option linter.all false
set_option maxRecDepth 100000
set_option maxHeartbeats 2000000
namespace L2
open PySem PySem.Spec PyProof.Rows
/-! ### a module's own table: texts for keys, ints behind them; TABLE.get(x) -/
section
variable {X : Cx} {K : PySem.W.Frag}
def entS (w : World) (x : Str × Int × Tok × Tok) : DictEntry := ⟨PyData.keyHash w.params x.1, .str x.1 x.2.2.1, .int x.2.1 x.2.2.2⟩
structure TabS (w : World) (K : PySem.W.Frag) (mg : Str → Option Value) (n : Str) (kvs : List (Str × Int)) : Prop where
  ex : ∃ (a : Addr) (es : List (Str × Int × Tok × Tok)) (ep : Nat), mg n = some (.ref a) ∧ (a == sysModules) = false ∧ K.lookup a = some { cls := .type "dict", data := .dict (es.map (entS w)).toArray ep } ∧ es.map (fun x => (x.1, x.2.1)) = kvs ∧ (es.map (·.1)).Nodup
def keyV (kvs : List (Str × Int)) : List (Key × V) := kvs.map fun x => (.inr x.1, .int x.2)
def lookS (kvs : List (Str × Int)) (x : Str) : V := (valV (keyV kvs) (.inr x)).getD .non
def qGetC (kvs : List (Str × Int)) (te : TE) : TE := fun σ H Q => te σ H fun y H1 => match y with
  | .str x => Q (lookS kvs x) H1
  | _ => False
theorem pairs_of (P : Program) (w : World) : ∀ es : List (Str × Int × Tok × Tok), Pairs (mixKind P w) (es.map (entS w)) (es.map fun x => ((.inr x.1 : Key), Value.int x.2.1 x.2.2.2))
  | [] => .nil
  | x :: es => .cons (mixKind_str P w x.1 x.2.2.1) rfl (pairs_of P w es)
theorem kv_of : ∀ es : List (Str × Int × Tok × Tok), KV (keyV (es.map fun x => (x.1, x.2.1))) (es.map fun x => ((.inr x.1 : Key), Value.int x.2.1 x.2.2.2))
  | [] => .nil
  | x :: es => .cons ⟨rfl, _, rfl⟩ (kv_of es)
theorem inr_nodup : ∀ {xs : List Str}, xs.Nodup → (xs.map (Sum.inr : Str → Key)).Nodup
  | [], _ => List.nodup_nil
  | x :: xs, h => by
    rw [List.nodup_cons] at h
    rw [List.map_cons, List.nodup_cons]
    refine ⟨fun hx => ?_, inr_nodup h.2⟩
    obtain ⟨y, hy, e⟩ := List.mem_map.mp hx
    cases e
    exact h.1 hy
theorem peGetC {n : Str} {kvs : List (Str × Int)} {e : Expr} {te : TE} {p apos cpos : Pos} (T : TabS X.w X.K X.mg n kvs) (he : PE X e te) (hg : Gl X n := by rfl) (hdb : (n == ("__debug__" : Str)) = false := by decide)
    (m1 : attributeBase (.Name n p) "get" X.env (eval (.Name n p) X.env) = eval (.Name n p) X.env := by rfl)
    (m2 : ((backTo cpos (starEach [e] X.env)).all (fun x => !x.1) && (backToKw cpos (keywordEach [] X.env)).all (fun x => x.1.isSome) && decide (([e] : List Expr).length + ([] : List Keyword).length + (if ([] : List Keyword).isEmpty then 0 else 1) < 30)) = true := by rfl)
    (m3 : (apos.endLine == cpos.line) = true := by rfl) (m4 : backTo cpos (starEach [e] X.env) = [(false, eval e X.env)] := by rfl) : PE X (.Call (.Attribute (.Name n p) "get" apos) [e] [] cpos) (qGetC kvs te) := by
  obtain ⟨a, es, ep, g1, g2, g3, rfl, g5⟩ := T.ex
  intro pins s σ H Q I h
  have dd : ∀ {s' : Shared} {H' : Hp}, Inv X pins σ H' s' → s'.heap.DictOf (mixKind X.prog X.w) a (es.map fun x => ((.inr x.1 : Key), Value.int x.2.1 x.2.2.2)) := fun {s' H'} I' => by
    refine ⟨_, _, ep, I'.kIn a _ g3, ⟨rfl, rfl, rfl⟩, rfl, fun e' he' => ?_, by simpa using pairs_of X.prog X.w es, ?_⟩
    · rw [List.mem_toArray] at he'
      obtain ⟨x, hx, rfl⟩ := List.mem_map.mp he'
      exact ⟨.inr x.1, mixKind_str _ _ _ _, rfl⟩
    · rw [List.map_map]
      have := inr_nodup g5
      rw [List.map_map] at this
      exact this
  refine wpAny_Call_method m1 m2 m3 PySem.F.plainAttrs_dict PySem.F.slot_dict_get PySem.F.type_dict_get (ld_glob I hg g1 ?_ hdb)
  refine ⟨(dd I).typeIs, fun b q => ?_, ?_⟩
  · cases q
    exact ⟨_, I.kIn a _ g3, rfl⟩
  rw [m4]
  refine Calls.callWith_builtin rfl (Calls.evalArgs_plain (Calls.spliced_cons (thn (he pins s σ H _ I h) fun iv s2 ⟨y, H2, I2, ry, q2⟩ => Calls.spliced_nil ?_)))
  dsimp only at q2
  split at q2
  · rename_i x
    refine call_meetsIn PySem.F.slot_dict_get (dd I2).typeIs PySem.F.entry_dict_get (PySem.F.args_dict_get_2 _ _) (meets_dict_get (mixKind X.prog X.w) a (k := .inr x) (kV_is ry) g2) ⟨_, (dd I2).mapOf, lookS _ x, H2, I2.tok _, ?_, q2⟩
    exact ((kv_of es).val (.inr x)).getD rfl
  · exact q2.elim
theorem tabS_mk {w : World} {K : PySem.W.Frag} {h : Heap} {mg : Str → Option Value} {n : Str} {a : Addr} {es : List (Str × Int × Tok × Tok)} {ep : Nat} (X : K.In h) (G : h.Ns mainGlobals mg) (g1 : PySem.W.nsIn K mainGlobals n = some (some (.ref a))) (g2 : (a == sysModules) = false) (g3 : K.lookup a = some { cls := .type "dict", data := .dict (es.map (entS w)).toArray ep }) (g5 : (es.map (·.1)).Nodup) : TabS w K mg n (es.map fun x => (x.1, x.2.1)) :=
  ⟨a, es, ep, PySem.W.mg_of X G g1, g2, g3, rfl, g5⟩
end
end L2

set_option Elab.async false
set_option linter.all false
set_option maxRecDepth 100000
set_option maxHeartbeats 2000000
namespace L2
open PySem PySem.Spec PyProof.Rows
/-! ### a <= b <= c as a test -/
section
variable {X : Cx} {a b c : Expr} {ta tb tc : TE} {pos : Pos}
def qChainT (r r' : R2) (ta tb tc : TE) : TT := fun σ H Q => ta σ H fun x H1 => tb σ H1 fun y H2 => r x y H2 fun z H3 => match z with
  | .bl k => br k (tc σ H3 fun w' H4 => r' y w' H4 fun z' H5 => match z' with
    | .bl k' => Q k' H5
    | _ => False) (Q false H3)
  | _ => False
theorem ptChain {op op' : CmpOp} {r r' : R2} (ho : OpR X (compareOp op) r) (ho' : OpR X (compareOp op') r') (ha : PE X a ta) (hb : PE X b tb) (hc : PE X c tc)
    (hm : lastMarks [op, op'] [b, c] = false := by with_unfolding_all rfl) : PT X (.Compare a [op, op'] [b, c] pos) (qChainT r r' ta tb tc) := by
  intro pins s σ H Q I h
  refine isTrue_chain (thn (ha pins s σ H _ I h) fun v s1 ⟨x, H1, I1, r1, q1⟩ => test_link (thn (hb pins s1 σ H1 _ I1 q1) fun u s2 ⟨y, H2, I2, r2, q2⟩ =>
    thn (ho pins s2 σ H2 x y v u _ I2 r1 r2 q2) fun d s3 ⟨z, H3, I3, r3, q3⟩ => ?_)) hm
  dsimp only at q3
  split at q3
  · rename_i k
    cases r3
    refine wpAny_truthy_bool ?_
    rw [br_iff] at q3
    cases k with
    | false => exact ite_ff ⟨H3, I3, by simpa using q3⟩
    | true =>
      have q3 : tc σ H3 (fun w' H4 => r' y w' H4 fun z' H5 => match z' with
        | .bl k' => Q k' H5
        | _ => False) := by simpa using q3
      refine ite_tt (test_last (thn (hc pins s3 σ H3 _ I3 q3) fun w' s4 ⟨z', H4, I4, r4, q4⟩ => thn (ho' pins s4 σ H4 y z' u w' _ I4 r2 r4 q4) fun d' s5 ⟨z5, H5, I5, r5, q5⟩ => ?_))
      dsimp only at q5
      split at q5
      · cases r5
        exact wpAny_truthy_bool ⟨H5, I5, q5⟩
      · exact q5.elim
  · exact q3.elim
end
/-! ### texts put together and taken apart again -/
theorem join_cons_list (c : Nat) (a b : Str) (r : List Str) : ((⟨#[c]⟩ : Str).join (a :: b :: r)).cps.toList = a.cps.toList ++ c :: ((⟨#[c]⟩ : Str).join (b :: r)).cps.toList := by
  rw [Str.join.eq_3 _ _ _ (by simp), PySem.W.KT.app_list, PySem.W.KT.app_list]
  simp
/-! ### numbers as texts -/
def numS (n : Int) : Str := Str.ofString (toString n)
theorem numS_neg {n : Int} (h : n < 0) : (numS n).cps.toList = 45 :: (numS (0 - n)).cps.toList := by
  unfold numS
  rw [toString_neg h, Str.ofString_eq_toList, Str.ofString_eq_toList]
  simp
end L2

set_option Elab.async false
set_option linter.all false
set_option maxRecDepth 100000
set_option maxHeartbeats 2000000
namespace L2
open PySem PySem.Spec PyProof.Rows
/-! ### a module's own tuple of texts -/
section
variable {X : Cx} {K : PySem.W.Frag}
end
/-! ### try: f(..) except C: (what is never reached) -/
section
variable {X : Cx}
end
end L2

set_option Elab.async false
set_option linter.all false
set_option maxRecDepth 100000
set_option maxHeartbeats 4000000
namespace L2
open PySem PySem.Calls PySem.NumText PyProof.Rows PySem.W
/-! ### int of a text of more than 640 figures -/
theorem wp_textL {M : Model} {A : Around} {E : Value → Shared → Prop} {s : Shared} {Q : Value → Shared → Prop} {v : Value} {text : List Nat} {n : Int} {K : Frag} (X : K.In s.heap) (hD : nsIn K cStatics "sys.int_max_str_digits" = some none)
    (hs : ¬ (text.takeWhile (· != 0)).length ≤ 640) (hr : (int_private% "readNumeral") 4300 10 (text.takeWhile (· != 0)) = (int_private% "Numeral.value") n)
    (ha : ((text.takeWhile (· != 0)).length == text.length) = true) (h : Q (.int n s.toks) { s with toks := s.toks + 1 }) :
    wpAny M A ((int_private% "intFromText") v text 10) Q E s := by
  have L := looks_nsIn (M := M) X hD
  obtain ⟨hp, g, d, tk, os⟩ := s
  repeat (any_goals (first
    | assumption
    | (with_reducible refine wpAny_ite_false (by simpa using hs) ?_)
    | (with_reducible refine wpAny_ite_true (decide_eq_true ha) ?_)
    | (with_reducible refine L.at ?_)
    | wp_step))
  all_goals (try rw [hr])
  all_goals (try dsimp only)
  repeat (any_goals (first
    | assumption
    | (with_reducible refine wpAny_ite_true (decide_eq_true ha) ?_)
    | wp_step))
structure HidL (p : Prop) : Prop where
  out : p
theorem meets_textL {x : PySem.Str} {u : Tok} {n : Int} {K : Frag} (hx : x.length ≤ sizeLine) (hn : PySem.intText? x = some n) (hD : nsIn K cStatics "sys.int_max_str_digits" = some none) : Meets (Builtin.«int.__new__» ⟨[.type "int", .str x u], []⟩) (fun _ R s => K.In s.heap ∧ R (.ok (.ret (.int n s.toks))) { s with toks := s.toks + 1 }) := by
  intro prog w A R s hS
  obtain ⟨X, h⟩ := hS
  by_cases hl : (numSeenOf x).length ≤ 640
  · have hr : (int_private% "readNumeral") 0 10 (numSeenOf x) = (int_private% "Numeral.value") n ∧ ((numSeenOf x).length == (numTextOf x).length) = true := by
      rcases read0 x hl with ⟨m, h1, h2, h3⟩ | ⟨h1, _⟩
      · rw [hn] at h1
        injection h1 with h1
        subst h1
        exact ⟨h3, h2⟩
      · rw [hn] at h1
        cases h1
    have hk := HidL.mk (And.intro hl hr)
    clear hl hr hn X hD
    have f1 := F.conv_sub_int
    have f2 := F.madeHere_int
    have f3 := KIN.str_int
    have f4 := KIN.str_idx
    have f5 := KIN.str_trunc
    have f6 : typeOf (.str x u) = pure (.type "str") := rfl
    obtain ⟨hp, g, d, tk, os⟩ := s
    repeat (any_goals (first
      | assumption
      | ((with_reducible show wpAny _ _ ((int_private% "intFromText") _ _ _) _ _ _); refine KIN.wp_text hk.out.1 hk.out.2.1 hk.out.2.2 ?_)
      | wp_step))
  · have hr : (int_private% "readNumeral") 4300 10 (numSeenOf x) = (int_private% "Numeral.value") n ∧ ((numSeenOf x).length == (numTextOf x).length) = true := by
      rcases read4300 x hx with ⟨m, h1, h2, h3⟩ | ⟨h1, _⟩
      · rw [hn] at h1
        injection h1 with h1
        subst h1
        exact ⟨h3, h2⟩
      · rw [hn] at h1
        cases h1
    have hk := HidL.mk (And.intro hl hr)
    have hX := HidL.mk (And.intro X hD)
    clear hl hr hn X hD
    have f1 := F.conv_sub_int
    have f2 := F.madeHere_int
    have f3 := KIN.str_int
    have f4 := KIN.str_idx
    have f5 := KIN.str_trunc
    have f6 : typeOf (.str x u) = pure (.type "str") := rfl
    obtain ⟨hp, g, d, tk, os⟩ := s
    repeat (any_goals (first
      | assumption
      | ((with_reducible show wpAny _ _ ((int_private% "intFromText") _ _ _) _ _ _); refine wp_textL hX.out.1 hX.out.2 hk.out.1 hk.out.2.1 hk.out.2.2 ?_)
      | wp_step))
theorem call_textL {prog : Program} {w : World} {A : Around} {E : Value → Shared → Prop} {s : Shared} {Q : Value → Shared → Prop} {x : PySem.Str} {t : Tok} {n : Int} {K : Frag} (X : K.In s.heap) (hD : nsIn K cStatics "sys.int_max_str_digits" = some none) (hn : PySem.intText? x = some n) (hl : x.length ≤ sizeLine) (h : Q (.int n s.toks) { s with toks := s.toks + 1 }) : wpAny (model prog w) A (call (.type "int") [.str x t]) Q E s :=
  call_int_1 (meets_textL hl hn hD) ⟨X, ⟨rfl, h⟩⟩
section
variable {X : Cx} {K : PySem.W.Frag}
@[irreducible] def rIntL (x : Str) (H : Hp) (Q : VK) : Prop := ∃ n : Int, PySem.intText? x = some n ∧ x.length ≤ sizeLine ∧ Q (.int n) H
def rIntLM : List V → Hp → VK → Prop := fun xs H Q => match xs with
  | [.str x] => rIntL x H Q
  | _ => False
theorem cIntL (hK : X.K = K) (hD : nsIn K cStatics "sys.int_max_str_digits" = some none) : CallR X (.type "int") rIntLM := by
  subst hK
  intro pins s σ H xs us Q I r h
  unfold rIntLM at h
  split at h
  · unfold rIntL at h
    obtain ⟨n, h1, h2, q⟩ := h
    obtain ⟨u, rfl, r1⟩ := vals1 r
    obtain ⟨t, rfl⟩ := r1
    exact call_textL I.kIn hD h1 h2 ⟨.int n, H, I.tok _, ⟨_, rfl⟩, q⟩
  · exact h.elim
theorem intL_rd {x : Str} {H : Hp} {Q : VK} {n : Int} (h1 : PySem.intText? x = some n) (h2 : x.length ≤ sizeLine) (q : Q (.int n) H) : rIntL x H Q := by unfold rIntL; exact ⟨n, h1, h2, q⟩
end
end L2

set_option Elab.async false
set_option linter.all false
set_option maxRecDepth 100000
set_option maxHeartbeats 2000000
namespace L2
open PySem PySem.Spec PyProof.Rows
/-! ### a text walked by a for loop -/
section
variable {K : PySem.W.Frag} {g : TG} {tb : TS} {D : Ends} {σ : St} {H : Hp}
theorem loop_str {x : Str} (Pv : Nat → St → Hp → Prop) (h0 : Pv 0 σ H)
    (hs : ∀ i c σ H, x.cps.toList[i]? = some c → Pv i σ H → g (.str ⟨#[c]⟩) σ H fun σ2 H2 => tb { D with nx := Pv (i + 1), ct := Pv (i + 1), bk := D.nx } σ2 H2) (hd : ∀ σ H, Pv x.cps.toList.length σ H → D.nx σ H) : loopW (Its x) g tb D σ H := by
  unfold loopW
  have e0 : x.cps.toList.length = x.cps.size := Array.length_toList
  refine ⟨fun i m σ H => m = x.cps.size - i ∧ i ≤ x.cps.size ∧ Pv i σ H, ⟨x.cps.size, by simp, Nat.zero_le _, h0⟩, ?_⟩
  rintro i m σ H ⟨rfl, hi', p⟩
  by_cases hlt : i < x.cps.size
  · refine .inr ⟨hlt, Pv (i + 1), fun σ' H' p' => ⟨x.cps.size - (i + 1), by omega, rfl, hlt, p'⟩, fun v H' y => ?_⟩
    obtain ⟨e, c, ec, rfl⟩ := y
    subst e
    exact hs i c σ _ (by rw [Array.getElem?_toList]; exact ec) p
  · have e : i = x.cps.size := by omega
    subst e
    exact .inl ⟨Nat.le_refl _, hd σ H (by rw [e0]; exact p)⟩
end
/-! ### y not in x, both texts -/
section
variable {X : Cx} {K : PySem.W.Frag}
def rNotInZM (K : PySem.W.Frag) : R2 := fun x y H Q => match x, y with
  | .str a, .str b => Q (.bl (!hasS b a)) H
  | x, y => rInM K true x y H Q
theorem oNotInZK (hK : X.K = K) : OpR X (compareOp .NotIn) (rNotInZM K) := by
  intro pins s σ H x y v u Q I rx ry h
  unfold rNotInZM at h
  split at h
  · obtain ⟨t, rfl⟩ := rx
    obtain ⟨t', rfl⟩ := ry
    exact P.notIn_str ⟨.bl _, H, I, rfl, h⟩
  · exact oNotInK hK pins s σ H _ _ v u Q I rx ry h
end
end L2

set_option Elab.async false
set_option linter.all false
set_option maxRecDepth 100000
set_option maxHeartbeats 1000000
namespace G
open PySem L2
def top (i : Nat) : Stmt := PySem.Challenge.pw_hostfields_k79_texts_of_no_paper.main.body.getD i (.Pass ⟨0, 0, 0, 0⟩)
abbrev s_read_paper : Stmt := top 19
theorem sc_read_paper : FnScope ["text", "rows", "flows", "numbers"] ["text"] (defScope s_read_paper) := ⟨rfl, rfl, rfl, by decide +kernel, rfl, by decide +kernel, by decide +kernel⟩
abbrev s_by_fields : Stmt := top 20
theorem sc_by_fields : FnScope ["pairs", "lists", "field", "thing"] ["pairs"] (defScope s_by_fields) := ⟨rfl, rfl, rfl, by decide +kernel, rfl, by decide +kernel, by decide +kernel⟩
abbrev s_read_rows : Stmt := top 21
theorem sc_read_rows : FnScope ["text", "stands", "pieces", "rows", "ahead", "number", "piece", "row"] ["text", "stands"] (defScope s_read_rows) := ⟨rfl, rfl, rfl, by decide +kernel, rfl, by decide +kernel, by decide +kernel⟩
abbrev s_read_row : Stmt := top 22
theorem sc_read_row : FnScope ["piece", "words"] ["piece"] (defScope s_read_row) := ⟨rfl, rfl, rfl, by decide +kernel, rfl, by decide +kernel, by decide +kernel⟩
abbrev s_has_wanted : Stmt := top 23
theorem sc_has_wanted : FnScope ["word", "many"] ["word", "many"] (defScope s_has_wanted) := ⟨rfl, rfl, rfl, by decide +kernel, rfl, by decide +kernel, by decide +kernel⟩
abbrev s_is_number : Stmt := top 24
theorem sc_is_number : FnScope ["word", "figures"] ["word"] (defScope s_is_number) := ⟨rfl, rfl, rfl, by decide +kernel, rfl, by decide +kernel, by decide +kernel⟩
abbrev s_stands_in_paper : Stmt := top 25
theorem sc_stands_in_paper : FnScope ["ahead", "row"] ["ahead", "row"] (defScope s_stands_in_paper) := ⟨rfl, rfl, rfl, by decide +kernel, rfl, by decide +kernel, by decide +kernel⟩
abbrev s_flow_stands : Stmt := top 26
theorem sc_flow_stands : FnScope ["ahead", "row"] ["ahead", "row"] (defScope s_flow_stands) := ⟨rfl, rfl, rfl, by decide +kernel, rfl, by decide +kernel, by decide +kernel⟩
abbrev s_number_stands : Stmt := top 27
theorem sc_number_stands : FnScope ["ahead", "row", "place"] ["ahead", "row"] (defScope s_number_stands) := ⟨rfl, rfl, rfl, by decide +kernel, rfl, by decide +kernel, by decide +kernel⟩
abbrev s__law_stirred : Stmt := top 29
theorem sc__law_stirred : FnScope ["_law_number", "_law_k", "_law_mixed"] ["_law_number", "_law_k"] (defScope s__law_stirred) := ⟨rfl, rfl, rfl, by decide +kernel, rfl, by decide +kernel, by decide +kernel⟩
abbrev s__law_opened : Stmt := top 30
theorem sc__law_opened : FnScope ["_law_cell"] ["_law_cell"] (defScope s__law_opened) := ⟨rfl, rfl, rfl, by decide +kernel, rfl, by decide +kernel, by decide +kernel⟩
abbrev s__law_draw : Stmt := top 31
theorem sc__law_draw : FnScope ["_law_left", "_law_base", "_law_digit", "_law_number", "_law_turn", "_law_mixed"] ["_law_left", "_law_base"] (defScope s__law_draw) := ⟨rfl, rfl, rfl, by decide +kernel, rfl, by decide +kernel, by decide +kernel⟩
abbrev s__law_drawn_paper : Stmt := top 32
theorem sc__law_drawn_paper : FnScope ["_law_left", "_law_far", "_law_stream", "_law_k", "_law_row", "_law_part", "_law_come", "_law_flow", "_law_table", "_law_wide", "_law_near"] ["_law_left"] (defScope s__law_drawn_paper) := ⟨rfl, rfl, rfl, by decide +kernel, rfl, by decide +kernel, by decide +kernel⟩
abbrev s__law_rows_of : Stmt := top 33
theorem sc__law_rows_of : FnScope ["_law_paper", "_law_rows", "_law_k", "_law_flows", "_law_come", "_law_sent", "_law_flow", "_law_numbers", "_law_count", "_law_number"] ["_law_paper"] (defScope s__law_rows_of) := ⟨rfl, rfl, rfl, by decide +kernel, rfl, by decide +kernel, by decide +kernel⟩
abbrev s__law_drawn_sign : Stmt := top 34
theorem sc__law_drawn_sign : FnScope ["_law_left", "_law_some"] ["_law_left"] (defScope s__law_drawn_sign) := ⟨rfl, rfl, rfl, by decide +kernel, rfl, by decide +kernel, by decide +kernel⟩
abbrev s__law_odd_one : Stmt := top 35
theorem sc__law_odd_one : FnScope ["_law_left", "_law_far", "_law_some"] ["_law_left"] (defScope s__law_odd_one) := ⟨rfl, rfl, rfl, by decide +kernel, rfl, by decide +kernel, by decide +kernel⟩
abbrev s__law_many_rows : Stmt := top 36
theorem sc__law_many_rows : FnScope ["_law_left", "_law_rows", "_law_at", "_law_kind", "_law_other", "_law_rest"] ["_law_left", "_law_rows"] (defScope s__law_many_rows) := ⟨rfl, rfl, rfl, by decide +kernel, rfl, by decide +kernel, by decide +kernel⟩
abbrev s__law_bent_text : Stmt := top 37
theorem sc__law_bent_text : FnScope ["_law_left", "_law_rows", "_law_turn", "_law_text", "_law_at", "_law_way"] ["_law_left", "_law_rows"] (defScope s__law_bent_text) := ⟨rfl, rfl, rfl, by decide +kernel, rfl, by decide +kernel, by decide +kernel⟩
abbrev s__law_figured : Stmt := top 38
theorem sc__law_figured : FnScope ["_law_word", "_law_figures", "_law_sign"] ["_law_word"] (defScope s__law_figured) := ⟨rfl, rfl, rfl, by decide +kernel, rfl, by decide +kernel, by decide +kernel⟩
abbrev s__law_all_figured : Stmt := top 39
theorem sc__law_all_figured : FnScope ["_law_words", "_law_found"] ["_law_words"] (defScope s__law_all_figured) := ⟨rfl, rfl, rfl, by decide +kernel, rfl, by decide +kernel, by decide +kernel⟩
abbrev s__law_kind_of : Stmt := top 40
theorem sc__law_kind_of : FnScope ["_law_caught", "_law_some", "_law_names"] ["_law_caught"] (defScope s__law_kind_of) := ⟨rfl, rfl, rfl, by decide +kernel, rfl, by decide +kernel, by decide +kernel⟩
abbrev s__law_took : Stmt := top 41
theorem sc__law_took : FnScope ["_law_stream", "_law_table", "_law_row", "_law_words", "_law_numbers"] ["_law_stream", "_law_table", "_law_row"] (defScope s__law_took) := ⟨rfl, rfl, rfl, by decide +kernel, rfl, by decide +kernel, by decide +kernel⟩
abbrev s__law_due_of : Stmt := top 42
theorem sc__law_due_of : FnScope ["_law_text", "_law_rows", "_law_last", "_law_lacks", "_law_stream", "_law_table", "_law_at", "_law_row"] ["_law_text"] (defScope s__law_due_of) := ⟨rfl, rfl, rfl, by decide +kernel, rfl, by decide +kernel, by decide +kernel⟩
abbrev s__law_told_of : Stmt := top 43
theorem sc__law_told_of : FnScope ["_law_text", "_law_caught", "_law_told", "e"] ["_law_text"] (defScope s__law_told_of) := ⟨rfl, rfl, rfl, by decide +kernel, rfl, by decide +kernel, by decide +kernel⟩
abbrev s_law : Stmt := top 44
theorem sc_law : FnScope ["_law_script", "_law_cell", "_law_left", "_law_rows", "_law_alone", "_law_text", "_law_one"] ["_law_script"] (defScope s_law) := ⟨rfl, rfl, rfl, by decide +kernel, rfl, by decide +kernel, by decide +kernel⟩
abbrev q_NoText : Stmt := inClass (top 11) 0
theorem sc_q_NoText : FnScope ["self", "row"] ["self", "row"] (defScope q_NoText) := ⟨rfl, rfl, rfl, by decide +kernel, rfl, by decide +kernel, by decide +kernel⟩
theorem ini_NoText {P : Program} {w : World} {K : PySem.W.Frag} {mg : Str → Option Value} {base : Heap} {C aH f : Addr} (F : IniF K "NoText.__init__" q_NoText f "row") (Z : IniK K C aH f "row") : IniOk P w K mg base C f "row" := by
  obtain ⟨fd, F, hb⟩ := F
  refine ⟨_, fd, F.ok sc_q_NoText (fun vs H Q E h => by unfold sp_init at h; obtain ⟨_, _, rfl, _⟩ := h; rfl) (fun cdv A outer s H vs Q E hr h => ?_), hb⟩
  unfold sp_init at h
  obtain ⟨e, v, rfl, he, q⟩ := h
  refine ⟨_, (pss_one (psFldX (K := K) rfl Z (pq 0) (pq 1))), ?_⟩
  (conv => whnf)
  exact setX_rd he q
theorem nb_0 : (["sign"] : List Str).Nodup := by decide +kernel
theorem nb_1 : (["word"] : List Str).Nodup := by decide +kernel
theorem nb_2 : (["row"] : List Str).Nodup := by decide +kernel
theorem nb_3 : (["_law_count", "_law_left", "_law_near"] : List Str).Nodup := by decide +kernel
theorem nb_4 : (["_law_row"] : List Str).Nodup := by decide +kernel
theorem nb_5 : (["_law_word"] : List Str).Nodup := by decide +kernel
theorem nb_6 : (["_law_row", "_law_cell"] : List Str).Nodup := by decide +kernel
theorem nb_7 : (["_law_row"] : List Str).Nodup := by decide +kernel
structure Cz (K : PySem.W.Frag) (mg : Str → Option Value) (base : Heap) (a_HostError a_NoBattle a_NoPlan a_NoMix a_NoStream a_NoSide a_NoAlike a_NoNumber a_TooGreat a_NoEven a_NoText a_NoRow a_NoName a_NoPlace i_NoText : Addr) : Prop where
  g_HostError : mg "HostError" = some (.ref a_HostError)
  g_NoBattle : mg "NoBattle" = some (.ref a_NoBattle)
  g_NoPlan : mg "NoPlan" = some (.ref a_NoPlan)
  g_NoMix : mg "NoMix" = some (.ref a_NoMix)
  g_NoStream : mg "NoStream" = some (.ref a_NoStream)
  g_NoSide : mg "NoSide" = some (.ref a_NoSide)
  g_NoAlike : mg "NoAlike" = some (.ref a_NoAlike)
  g_NoNumber : mg "NoNumber" = some (.ref a_NoNumber)
  g_TooGreat : mg "TooGreat" = some (.ref a_TooGreat)
  g_NoEven : mg "NoEven" = some (.ref a_NoEven)
  g_NoText : mg "NoText" = some (.ref a_NoText)
  g_NoRow : mg "NoRow" = some (.ref a_NoRow)
  g_NoName : mg "NoName" = some (.ref a_NoName)
  g_NoPlace : mg "NoPlace" = some (.ref a_NoPlace)
  z_NoText : IniK K a_NoText a_HostError i_NoText "row"
  fi_NoText : IniF K "NoText.__init__" q_NoText i_NoText "row"
  hd_NoText : PySem.W.hasDictIn K a_NoText = true
  k_NoText : ExcK K a_NoText
  c_NoText : (PySem.W.clsIn K a_NoText).isSome = true
  m_NoText : PySem.W.exmOne K (.ref a_NoText) (.ref a_HostError) = some true
  v_NoText : PySem.W.kitOne K (.ref a_NoText) (.type "ValueError") = some true
  i_NoText_HostError : PySem.W.kitOne K (.ref a_NoText) (.ref a_HostError) = some true
  i_NoText_NoBattle : PySem.W.kitOne K (.ref a_NoText) (.ref a_NoBattle) = some false
  i_NoText_NoPlan : PySem.W.kitOne K (.ref a_NoText) (.ref a_NoPlan) = some false
  i_NoText_NoMix : PySem.W.kitOne K (.ref a_NoText) (.ref a_NoMix) = some false
  i_NoText_NoStream : PySem.W.kitOne K (.ref a_NoText) (.ref a_NoStream) = some false
  i_NoText_NoSide : PySem.W.kitOne K (.ref a_NoText) (.ref a_NoSide) = some false
  i_NoText_NoAlike : PySem.W.kitOne K (.ref a_NoText) (.ref a_NoAlike) = some false
  i_NoText_NoNumber : PySem.W.kitOne K (.ref a_NoText) (.ref a_NoNumber) = some false
  i_NoText_TooGreat : PySem.W.kitOne K (.ref a_NoText) (.ref a_TooGreat) = some false
  i_NoText_NoEven : PySem.W.kitOne K (.ref a_NoText) (.ref a_NoEven) = some false
  i_NoText_NoText : PySem.W.kitOne K (.ref a_NoText) (.ref a_NoText) = some true
  i_NoText_NoRow : PySem.W.kitOne K (.ref a_NoText) (.ref a_NoRow) = some false
  i_NoText_NoName : PySem.W.kitOne K (.ref a_NoText) (.ref a_NoName) = some false
  i_NoText_NoPlace : PySem.W.kitOne K (.ref a_NoText) (.ref a_NoPlace) = some false
  n_HostError : PySem.W.kitOne K (.type "NoneType") (.ref a_HostError) = some false
  n_NoBattle : PySem.W.kitOne K (.type "NoneType") (.ref a_NoBattle) = some false
  n_NoPlan : PySem.W.kitOne K (.type "NoneType") (.ref a_NoPlan) = some false
  n_NoMix : PySem.W.kitOne K (.type "NoneType") (.ref a_NoMix) = some false
  n_NoStream : PySem.W.kitOne K (.type "NoneType") (.ref a_NoStream) = some false
  n_NoSide : PySem.W.kitOne K (.type "NoneType") (.ref a_NoSide) = some false
  n_NoAlike : PySem.W.kitOne K (.type "NoneType") (.ref a_NoAlike) = some false
  n_NoNumber : PySem.W.kitOne K (.type "NoneType") (.ref a_NoNumber) = some false
  n_TooGreat : PySem.W.kitOne K (.type "NoneType") (.ref a_TooGreat) = some false
  n_NoEven : PySem.W.kitOne K (.type "NoneType") (.ref a_NoEven) = some false
  n_NoText : PySem.W.kitOne K (.type "NoneType") (.ref a_NoText) = some false
  n_NoRow : PySem.W.kitOne K (.type "NoneType") (.ref a_NoRow) = some false
  n_NoName : PySem.W.kitOne K (.type "NoneType") (.ref a_NoName) = some false
  n_NoPlace : PySem.W.kitOne K (.type "NoneType") (.ref a_NoPlace) = some false
structure Nm (mg : Str → Option Value) : Prop where
  ValueError_ : mg "ValueError" = none
  all_ : mg "all" = none
  bool_ : mg "bool" = none
  enumerate_ : mg "enumerate" = none
  int_ : mg "int" = none
  isinstance_ : mg "isinstance" = none
  len_ : mg "len" = none
  range_ : mg "range" = none
  str_ : mg "str" = none
  tuple_ : mg "tuple" = none
/-! ### how a promise is read -/
local macro_rules | `(tactic| walk_at "hp") => `(tactic| first | assumption | (refine Same.at (H := ?H) ?s ?e; (case s => assumption); (case e => walk_at "hp")) | (refine Chg.at (a := ?a) (H := ?H) ?c ?e ?n; (case c => assumption); (case n => walk_at "ne"); (case e => walk_at "hp")) | fail "hp")
local macro_rules | `(tactic| walk_at "ne") => `(tactic| first | assumption | (apply Ne.symm; assumption) | fail "ne")
local macro_rules | `(tactic| walk_at "wh") => `(tactic| (conv => whnf))
local macro_rules | `(tactic| walk_at "st") => `(tactic| (conv => whnf); first
  | refine mulR_rd (by omega) (by omega) ?_
  | refine mulL_rd (by omega) (by omega) ?_
  | refine modG_rd (by omega) (fun r h0 h1 => ?_)
  | refine div_rd (by omega) (by omega) ?_
  | (refine pow_rd ⟨by decide, by decide, by decide⟩ ?_; simp only [Int.reduceToNat, Int.reducePow])
  | (refine ixT_rd (xs := ?xs) (v := ?v) ?hp ?ev ?_; (case hp => walk_at "hp"); (case ev => rfl))
  | (refine ixL_rd (xs := ?xs) (v := ?v) ?hp ?ev ?_; (case hp => walk_at "hp"); (case ev => rfl))
  | refine newT_rd (fun p H' hf hs ha => ?_)
  | refine newL_rd (fun p H' hf hs ha => ?_)
  | refine isiI_rd ?_
  | (refine isiT_rd (xs := ?xs) ?hp ?_; (case hp => walk_at "hp"))
  | (refine isiL_rd (xs := ?xs) ?hp ?_; (case hp => walk_at "hp"))
  | (refine lenT_rd (xs := ?xs) ?hp ?_; (case hp => walk_at "hp"))
  | (refine lenL_rd (xs := ?xs) ?hp ?_; (case hp => walk_at "hp"))
  | refine isiB_rd ?_
  | refine br_T ?_
  | refine br_F ?_
  | refine br_dT (by omega) ?_
  | refine br_dF (by omega) ?_
  | fail "st")
/-! ### counts by caps: the mathematics -/
/-- one cap more -/
def stp (g : Nat → Nat → Int) (c : Nat) : Nat → Nat → Int
  | 0, t => g 0 t
  | f + 1, t => g (f + 1) t + if c ≤ t then stp g c f (t - c) else 0
def g0 (f t : Nat) : Int := if f = 0 ∧ t = 0 then 1 else 0
/-! ### counts by their numbers: the mathematics -/
/-! ### plans by numbers: the program -/
def pl (ns : List Nat) : List V := ns.map fun (n : Nat) => V.int (n : Int)
def il (ns : List Nat) : List Int := ns.map fun (n : Nat) => (n : Int)
local macro_rules | `(tactic| walk_at "om") => `(tactic| first | decide | omega)
section
variable {P : Program} {w : World} {K : PySem.W.Frag} {mg : Str → Option Value} {base : Heap} {a_HostError : Addr} {a_NoBattle : Addr} {a_NoPlan : Addr} {a_NoMix : Addr} {a_NoStream : Addr} {a_NoSide : Addr} {a_NoAlike : Addr} {a_NoNumber : Addr} {a_TooGreat : Addr} {a_NoEven : Addr} {a_NoText : Addr} {a_NoRow : Addr} {a_NoName : Addr} {a_NoPlace : Addr} {i_NoText : Addr}
/-! ### a heap without one thing, the new part of a heap -/
def rm (p : Addr) (H : Hp) : Hp := fun b => if b = p then none else H b
def nw (H H' : Hp) : Hp := fun b => match H b with
  | none => H' b
  | some _ => none
theorem rm_at {p b : Addr} {H : Hp} {o : HO} (n : b ≠ p) (h : H b = some o) : rm p H b = some o := by unfold rm; rw [if_neg n]; exact h
theorem rm_of {p b : Addr} {H : Hp} {o : HO} (h : rm p H b = some o) : b ≠ p ∧ H b = some o := by
  unfold rm at h
  by_cases e : b = p
  · rw [if_pos e] at h; cases h
  · rw [if_neg e] at h; exact ⟨e, h⟩
theorem rm_same (p : Addr) (H : Hp) : Same (rm p H) H := fun b o h => (rm_of h).2
theorem Same.rm {p : Addr} {H H' : Hp} (s : Same H H') : Same (rm p H) (G.rm p H') := fun b o h => rm_at (rm_of h).1 (s _ _ (rm_of h).2)
theorem Chg.rm {p : Addr} {H H' : Hp} (s : Chg p H H') : Same (rm p H) (G.rm p H') := fun b o h => rm_at (rm_of h).1 (s _ _ (rm_of h).1 (rm_of h).2)
/-! ### rows of texts -/
abbrev Rw := Str × List Int
def blank : Str := ⟨#[32]⟩
def lineE : Str := ⟨#[10]⟩
def rtext (r : Rw) : Str := Txt.join blank (r.1 :: r.2.map numS)
/-- a row as a tuple -/
def RwT (H : Hp) (p : Addr) (r : Rw) : Prop := H p = some (.tup (.str r.1 :: r.2.map V.int))
structure RwsAt (H : Hp) (l : Addr) (ps : List Addr) (rs : List Rw) : Prop where
  out : H l = some (.lst (ps.map V.ref))
  len : ps.length = rs.length
  row : ∀ (i : Nat) p r, ps[i]? = some p → rs[i]? = some r → RwT H p r
theorem RwsAt.same {H H' : Hp} {l : Addr} {ps : List Addr} {rs : List Rw} (R : RwsAt H l ps rs) (s : Same H H') : RwsAt H' l ps rs := ⟨s _ _ R.out, R.len, fun i p r e1 e2 => s _ _ (R.row i p r e1 e2)⟩
/-- numbers of at most fifty figures, words of at most ten signs -/
def SmI (n : Int) : Prop := -(10 ^ 50) ≤ n ∧ n ≤ 10 ^ 50
structure OkR (r : Rw) : Prop where
  w : r.1.length ≤ 10
  l : r.2.length ≤ 200
  n : ∀ n ∈ r.2, SmI n
  t : (reprText r.1).length ≤ 100
theorem SmI.shows {n : Int} (h : SmI n) : Shows (.int n) 20 16000000 := (Shows.int (by have := h.1; omega) (by have := h.2; omega)).up (by decide) (by decide)
theorem numS_len {n : Int} (h : SmI n) : (numS n).length ≤ 52 := by
  have pos : ∀ m : Int, 0 ≤ m → m ≤ 10 ^ 50 → (numS m).length ≤ 51 := fun m h0 h1 => PyProof.Rows.toString_length_le h0 (by decide) (by walk_at "om")
  rcases Int.lt_or_le n 0 with hn | hn
  · have e := congrArg List.length (numS_neg hn)
    rw [List.length_cons, Array.length_toList, Array.length_toList] at e
    have := pos (0 - n) (by walk_at "om") (by have := h.1; omega)
    show (numS n).cps.size ≤ 52
    have : (numS (0 - n)).cps.size ≤ 51 := this
    omega
  · have := pos n hn h.2
    omega
theorem lens_le {xs : List Str} {m : Nat} (h : ∀ x ∈ xs, x.length ≤ m) : (xs.map (·.length)).sum ≤ xs.length * m := by
  induction xs with
  | nil => simp
  | cons x xs ih =>
    have h1 := h x (.head _)
    have h2 := ih fun y hy => h y (.tail _ hy)
    rw [List.map_cons, List.sum_cons, List.length_cons, Nat.add_mul]
    omega
theorem words_len {r : Rw} (o : OkR r) : ∀ x ∈ r.1 :: r.2.map numS, x.length ≤ 52 := fun x hx => by
  rcases List.mem_cons.mp hx with rfl | hx
  · have := o.w; omega
  · obtain ⟨n, hn, rfl⟩ := List.mem_map.mp hx
    exact numS_len (o.n n hn)
theorem joined_len (sep : Str) (ts : List Str) : (Txt.join sep ts).length ≤ (ts.map (·.length)).sum + ts.length * sep.length := by
  rw [show Txt.join sep ts = sep.join ts from StrLaws.glued_eq_join _ _]
  exact StrLaws.join_length_le _ _
/-! ### the rows of a paper -/
abbrev F3 := Int × Int × Int
structure RwX (H : Hp) (p : Addr) (bs : List Addr) (xs : List F3) : Prop where
  out : H p = some (.lst (bs.map V.ref))
  len : bs.length = xs.length
  row : ∀ (i : Nat) b x, bs[i]? = some b → xs[i]? = some x → H b = some (.tup [.int x.1, .int x.2.1, .int x.2.2])
structure StX (H : Hp) (p : Addr) (rs : List (Addr × List Addr)) (xss : List (List F3)) : Prop where
  out : H p = some (.lst (rs.map fun r => V.ref r.1))
  len : rs.length = xss.length
  row : ∀ (i : Nat) r xs, rs[i]? = some r → xss[i]? = some xs → RwX H r.1 r.2 xs
structure TbX (H : Hp) (p : Addr) (qs : List Addr) (nss : List (List Int)) : Prop where
  out : H p = some (.lst (qs.map V.ref))
  len : qs.length = nss.length
  row : ∀ (i : Nat) q ns, qs[i]? = some q → nss[i]? = some ns → H q = some (.lst (ns.map V.int))
structure PpX (H : Hp) (p st tb : Addr) (rs : List (Addr × List Addr)) (xss : List (List F3)) (qs : List Addr) (nss : List (List Int)) : Prop where
  out : H p = some (.tup [.ref st, .ref tb])
  stm : StX H st rs xss
  tab : TbX H tb qs nss
theorem RwX.same {H H' : Hp} {p : Addr} {bs : List Addr} {xs : List F3} (R : RwX H p bs xs) (s : Same H H') : RwX H' p bs xs := ⟨s _ _ R.out, R.len, fun i b x e1 e2 => s _ _ (R.row i b x e1 e2)⟩
theorem StX.same {H H' : Hp} {p : Addr} {rs : List (Addr × List Addr)} {xss : List (List F3)} (R : StX H p rs xss) (s : Same H H') : StX H' p rs xss := ⟨s _ _ R.out, R.len, fun i r xs e1 e2 => (R.row i r xs e1 e2).same s⟩
theorem TbX.same {H H' : Hp} {p : Addr} {qs : List Addr} {nss : List (List Int)} (R : TbX H p qs nss) (s : Same H H') : TbX H' p qs nss := ⟨s _ _ R.out, R.len, fun i r xs e1 e2 => s _ _ (R.row i r xs e1 e2)⟩
theorem PpX.same {H H' : Hp} {p st tb : Addr} {rs : List (Addr × List Addr)} {xss : List (List F3)} {qs : List Addr} {nss : List (List Int)} (R : PpX H p st tb rs xss qs nss) (s : Same H H') : PpX H' p st tb rs xss qs nss := ⟨s _ _ R.out, R.stm.same s, R.tab.same s⟩
def flR (k : Nat) (z : F3) : Rw := ("flow", [(k : Int), z.1, z.2.1, z.2.2])
def nuR (k c : Nat) (n : Int) : Rw := ("number", [(k : Int), (c : Int), n])
def flowsR : Nat → List (List F3) → List Rw
  | _, [] => []
  | k, xs :: r => xs.map (flR k) ++ flowsR (k + 1) r
def numR (k : Nat) : Nat → List Int → List Rw
  | _, [] => []
  | c, n :: r => nuR k c n :: numR k (c + 1) r
def numsR : Nat → List (List Int) → List Rw
  | _, [] => []
  | k, ns :: r => numR k 0 ns ++ numsR (k + 1) r
theorem flowsR_snoc (xs : List F3) : ∀ (k : Nat) (ys : List (List F3)), flowsR k (ys ++ [xs]) = flowsR k ys ++ xs.map (flR (k + ys.length))
  | k, [] => by simp [flowsR]
  | k, y :: ys => by
    show y.map (flR k) ++ flowsR (k + 1) (ys ++ [xs]) = y.map (flR k) ++ flowsR (k + 1) ys ++ _
    rw [flowsR_snoc xs (k + 1) ys, List.append_assoc, List.length_cons, show k + 1 + ys.length = k + (ys.length + 1) by walk_at "om"]
theorem numsR_snoc (xs : List Int) : ∀ (k : Nat) (ys : List (List Int)), numsR k (ys ++ [xs]) = numsR k ys ++ numR (k + ys.length) 0 xs
  | k, [] => by simp [numsR]
  | k, y :: ys => by
    show numR k 0 y ++ numsR (k + 1) (ys ++ [xs]) = numR k 0 y ++ numsR (k + 1) ys ++ _
    rw [numsR_snoc xs (k + 1) ys, List.append_assoc, List.length_cons, show k + 1 + ys.length = k + (ys.length + 1) by walk_at "om"]
theorem numR_len (k : Nat) : ∀ (c : Nat) (ns : List Int), (numR k c ns).length = ns.length
  | _, [] => rfl
  | c, n :: r => by
    show (numR k (c + 1) r).length + 1 = _
    rw [numR_len k (c + 1) r]; rfl
/-- bounds of a paper that is written -/
structure PxB (xss : List (List F3)) (nss : List (List Int)) : Prop where
  fl : 1 ≤ xss.length ∧ xss.length ≤ 8
  rl : ∀ xs ∈ xss, 1 ≤ xs.length ∧ xs.length ≤ 20
  rn : ∀ xs ∈ xss, ∀ z ∈ xs, SmI z.1 ∧ SmI z.2.1 ∧ SmI z.2.2
  tl : 1 ≤ nss.length ∧ nss.length ≤ 8
  nl : ∀ ns ∈ nss, 1 ≤ ns.length ∧ ns.length ≤ 20
  nn : ∀ ns ∈ nss, ∀ n ∈ ns, SmI n
theorem SmI.nat {k : Nat} (h : k ≤ 1000) : SmI (k : Int) := ⟨by walk_at "om", by walk_at "om"⟩
theorem flR_ok {k : Nat} {z : F3} (hk : k ≤ 1000) (h : SmI z.1 ∧ SmI z.2.1 ∧ SmI z.2.2) : OkR (flR k z) := ⟨by show ("flow" : Str).length ≤ 10; decide +kernel, by show 4 ≤ 200; decide, fun n hn => by
  simp only [flR, List.mem_cons, List.not_mem_nil, or_false] at hn
  rcases hn with rfl | rfl | rfl | rfl
  · exact SmI.nat hk
  · exact h.1
  · exact h.2.1
  · exact h.2.2, by show (reprText ("flow" : Str)).length ≤ 100; decide +kernel⟩
theorem nuR_ok {k c : Nat} {n : Int} (hk : k ≤ 1000) (hc : c ≤ 1000) (h : SmI n) : OkR (nuR k c n) := ⟨by show ("number" : Str).length ≤ 10; decide +kernel, by show 3 ≤ 200; decide, fun m hm => by
  simp only [nuR, List.mem_cons, List.not_mem_nil, or_false] at hm
  rcases hm with rfl | rfl | rfl
  · exact SmI.nat hk
  · exact SmI.nat hc
  · exact h, by show (reprText ("number" : Str)).length ≤ 100; decide +kernel⟩
theorem flowsR_all {P : Rw → Prop} {m : Nat} : ∀ {xss : List (List F3)} {k : Nat}, k + xss.length ≤ m → (∀ xs ∈ xss, ∀ z ∈ xs, ∀ j, j ≤ m → P (flR j z)) → ∀ r ∈ flowsR k xss, P r
  | [], k, _, _, r, hr => by cases hr
  | xs :: xss, k, hk, h, r, hr => by
    rw [List.length_cons] at hk
    rcases List.mem_append.mp (show r ∈ xs.map (flR k) ++ flowsR (k + 1) xss from hr) with hr | hr
    · obtain ⟨z, hz, rfl⟩ := List.mem_map.mp hr
      exact h xs (.head _) z hz k (by walk_at "om")
    · exact flowsR_all (by walk_at "om") (fun ys hy => h ys (.tail _ hy)) r hr
theorem numR_all {P : Rw → Prop} {k m : Nat} : ∀ {ns : List Int} {c : Nat}, c + ns.length ≤ m → (∀ n ∈ ns, ∀ j, j ≤ m → P (nuR k j n)) → ∀ r ∈ numR k c ns, P r
  | [], c, _, _, r, hr => by cases hr
  | n :: ns, c, hc, h, r, hr => by
    rw [List.length_cons] at hc
    rcases List.mem_cons.mp (show r ∈ nuR k c n :: numR k (c + 1) ns from hr) with rfl | hr
    · exact h n (.head _) c (by walk_at "om")
    · exact numR_all (by walk_at "om") (fun x hx => h x (.tail _ hx)) r hr
theorem numsR_all {P : Rw → Prop} {m l : Nat} : ∀ {nss : List (List Int)} {k : Nat}, k + nss.length ≤ m → (∀ ns ∈ nss, ns.length ≤ l) → (∀ ns ∈ nss, ∀ n ∈ ns, ∀ j, j ≤ m → ∀ c, c ≤ l → P (nuR j c n)) → ∀ r ∈ numsR k nss, P r
  | [], k, _, _, _, r, hr => by cases hr
  | ns :: nss, k, hk, hl, h, r, hr => by
    rw [List.length_cons] at hk
    rcases List.mem_append.mp (show r ∈ numR k 0 ns ++ numsR (k + 1) nss from hr) with hr | hr
    · exact numR_all (m := l) (by have := hl ns (.head _); omega) (fun n hn j hj => h ns (.head _) n hn k (by walk_at "om") j hj) r hr
    · exact numsR_all (by walk_at "om") (fun ys hy => hl ys (.tail _ hy)) (fun ys hy => h ys (.tail _ hy)) r hr
theorem flowsR_len {l : Nat} : ∀ {xss : List (List F3)} (k : Nat), (∀ xs ∈ xss, xs.length ≤ l) → (flowsR k xss).length ≤ xss.length * l
  | [], _, _ => Nat.zero_le _
  | xs :: xss, k, h => by
    have h1 := h xs (.head _)
    have h2 := flowsR_len (k + 1) (fun ys hy => h ys (.tail _ hy)) (xss := xss)
    show (xs.map (flR k) ++ flowsR (k + 1) xss).length ≤ _
    rw [List.length_append, List.length_map, List.length_cons, Nat.add_mul]
    omega
theorem numsR_len {l : Nat} : ∀ {nss : List (List Int)} (k : Nat), (∀ ns ∈ nss, ns.length ≤ l) → (numsR k nss).length ≤ nss.length * l
  | [], _, _ => Nat.zero_le _
  | ns :: nss, k, h => by
    have h1 := h ns (.head _)
    have h2 := numsR_len (k + 1) (fun ys hy => h ys (.tail _ hy)) (nss := nss)
    show (numR k 0 ns ++ numsR (k + 1) nss).length ≤ _
    rw [List.length_append, numR_len, List.length_cons, Nat.add_mul]
    omega
theorem PxB.okF {xss : List (List F3)} {nss : List (List Int)} (B : PxB xss nss) : ∀ r ∈ flowsR 0 xss, OkR r := flowsR_all (m := 1000) (by have := B.fl; omega) fun xs hx z hz j hj => flR_ok hj (B.rn xs hx z hz)
theorem PxB.okN {xss : List (List F3)} {nss : List (List Int)} (B : PxB xss nss) : ∀ r ∈ numsR 0 nss, OkR r := numsR_all (m := 1000) (l := 20) (by have := B.tl; omega) (fun ns hn => (B.nl ns hn).2) fun ns hn n h j hj c hc => nuR_ok hj (by walk_at "om") (B.nn ns hn n h)
theorem RwsAt.ext {H : Hp} {l : Addr} {ps qs : List Addr} {rs us : List Rw} (h : H l = some (.lst (ps.map V.ref ++ qs.map V.ref))) (l1 : ps.length = rs.length) (l2 : qs.length = us.length) (r1 : ∀ (i : Nat) p r, ps[i]? = some p → rs[i]? = some r → RwT H p r) (r2 : ∀ (i : Nat) p r, qs[i]? = some p → us[i]? = some r → RwT H p r) : RwsAt H l (ps ++ qs) (rs ++ us) := by
  refine ⟨by rw [h, List.map_append], by rw [List.length_append, List.length_append, l1, l2], fun i p r e1 e2 => ?_⟩
  by_cases hi : i < ps.length
  · rw [List.getElem?_append_left hi] at e1
    rw [List.getElem?_append_left (by walk_at "om")] at e2
    exact r1 i p r e1 e2
  · rw [List.getElem?_append_right (by walk_at "om")] at e1
    rw [List.getElem?_append_right (by walk_at "om"), ← l1] at e2
    exact r2 _ p r e1 e2
-- @@split
/-! ### words that are numbers; what is wanted behind a row's first word -/
def WT : List (Str × Int) := [("hosts", 2), ("more", 2), ("lead", 2), ("flow", 4), ("number", 3)]
def hasW (w : Str) (m : Int) : Bool := if w = "table" then decide (1 ≤ m) else decide (lookS WT w = .int m)
theorem lookS_or : ∀ (kvs : List (Str × Int)) (x : Str), (∃ n, lookS kvs x = .int n) ∨ lookS kvs x = .non
  | [], _ => .inr rfl
  | (k, n) :: kvs, x => by
    have e : lookS ((k, n) :: kvs) x = if k = x then .int n else lookS kvs x := by
      unfold lookS valV keyV
      rw [List.map_cons, List.find?_cons]
      by_cases h : k = x
      · rw [if_pos h, h]; simp
      · rw [if_neg h]
        simp [h]
    rw [e]
    split
    · exact .inl ⟨n, rfl⟩
    · exact lookS_or kvs x
@[irreducible] def sp_has_wanted : Sp := fun vs H Q _ => ∃ (w : Str) (m : Int), vs = [.str w, .int m] ∧ Q (.bl (hasW w m)) H
theorem has_wanted_rd {H : Hp} {w : Str} {m : Int} {Q : VK} {E : XK} (q : Q (.bl (hasW w m)) H) : sp_has_wanted [.str w, .int m] H Q E := by unfold sp_has_wanted; exact ⟨w, m, rfl, q⟩
theorem ok_has_wanted {f : Addr} {fd : FuncData} (F : Fun K "has_wanted" "has_wanted" s_has_wanted f fd) (N : Nm mg) (T_WANTED : TabS w K mg "WANTED" [("hosts", 2), ("more", 2), ("lead", 2), ("flow", 4), ("number", 3)]) : FnOk P w K mg base CX0 1 f fd ["word", "many"] sp_has_wanted := by
  refine F.ok sc_has_wanted (fun vs H Q E h => by unfold sp_has_wanted at h; obtain ⟨_, _, rfl, _⟩ := h; rfl) (fun cdv A outer s H vs Q E hr h => ?_)
  unfold sp_has_wanted at h
  obtain ⟨w, m, rfl, q⟩ := h
  have hu := hu40 hr
  refine ⟨_, (pss_one (ps_ret (peIf (ptC (oEqXK (K := K) rfl (by exact hu)) (pq 0) pe_str) (peC oGe (pq 1) pe_int) (peC (oEqXK (K := K) rfl (by exact hu)) (peGetC T_WANTED (pq 0)) (pq 1))))), ?_⟩
  refine br_dec (fun h1 => ?_) (fun h1 => ?_)
  · unfold hasW at q
    rw [if_pos h1] at q
    walk_at "wh"
    exact q
  · unfold hasW at q
    rw [if_neg h1] at q
    show rEqXM K (lookS WT w) (.int m) H Q
    rcases lookS_or WT w with ⟨n, e⟩ | e
    · rw [e] at q ⊢
      show Q (.bl (decide (n = m))) H
      rw [show decide (n = m) = decide (V.int n = V.int m) by rw [decide_eq_decide]; exact ⟨fun h => by rw [h], fun h => by cases h; rfl⟩]
      exact q
    · rw [e] at q ⊢
      exact eqS_rd (d := .none) (e := .int m) .non (.int m) rfl rfl (by decide) q
def figL : List Nat → List Nat
  | 45 :: r => r
  | cs => cs
def numB (cs : List Nat) : Bool := (decide (1 ≤ (figL cs).length) && decide ((figL cs).length ≤ 2000)) && (figL cs).all (fun c => decide (48 ≤ c ∧ c ≤ 57)) && (decide ((figL cs).head? ≠ some 48) || decide (cs = [48]))
theorem start_minus (x : Str) : Txt.startswith x "-" = decide (x.cps.toList.head? = some 45) := by
  have h := StrLaws.subAt_one x 45 0
  rw [Bool.eq_iff_iff, decide_eq_true_eq, List.head?_eq_getElem?, ← h]
  unfold Txt.startswith
  rw [Bool.and_eq_true, decide_eq_true_eq]
  exact Iff.rfl
theorem figL_minus {cs : List Nat} (h : cs.head? = some 45) : figL cs = cs.drop 1 := by
  cases cs with
  | nil => cases h
  | cons c r => cases h; rfl
theorem figL_other {cs : List Nat} (h : ¬ cs.head? = some 45) : figL cs = cs := by
  cases cs with
  | nil => rfl
  | cons c r =>
    unfold figL
    split
    · rename_i z; cases z; exact absurd rfl h
    · rfl
theorem slice1 {x : Str} (h : x.cps.toList.head? = some 45) : (Txt.slice x (some 1) none).cps.toList = x.cps.toList.drop 1 := by
  have l : 1 ≤ x.length := by
    show 1 ≤ x.cps.size
    rw [← Array.length_toList]
    cases e : x.cps.toList with
    | nil => rw [e] at h; cases h
    | cons c r => rw [List.length_cons]; omega
  rw [PyProof.Rows.slice_from_eq (b := x.length) (by decide) (by walk_at "om") rfl]
  show List.take ((x.length : Int) - 1).toNat (List.drop (1 : Int).toNat x.cps.toList) = _
  rw [List.take_of_length_le]
  · rfl
  · rw [List.length_drop, Array.length_toList]
    show x.length - 1 ≤ ((x.length : Int) - 1).toNat
    omega
theorem has_fig (c : Nat) : hasS "0123456789" ⟨#[c]⟩ = decide (48 ≤ c ∧ c ≤ 57) := by
  unfold hasS
  rw [StrLaws.found_one, decide_eq_decide, show ("0123456789" : Str).cps.toList = [48, 49, 50, 51, 52, 53, 54, 55, 56, 57] by decide +kernel]
  simp only [List.mem_cons, List.not_mem_nil, or_false]
  omega
@[irreducible] def sp_is_number : Sp := fun vs H Q _ => ∃ (x : Str), vs = [.str x] ∧ x.length ≤ 1000000 ∧ ∀ H', Same H H' → Q (.bl (numB x.cps.toList)) H'
theorem is_number_rd {H : Hp} {x : Str} {Q : VK} {E : XK} (h : x.length ≤ 1000000) (q : ∀ H', Same H H' → Q (.bl (numB x.cps.toList)) H') : sp_is_number [.str x] H Q E := by unfold sp_is_number; exact ⟨x, rfl, h, q⟩
set_option maxHeartbeats 0 in
theorem ok_is_number {f : Addr} {fd : FuncData} (F : Fun K "is_number" "is_number" s_is_number f fd) (N : Nm mg) {tk_FIGURES : Tok} (c_FIGURES : mg "FIGURES" = some (.str "0123456789" tk_FIGURES)) {tk_MOST_FIGURES : Tok} (c_MOST_FIGURES : mg "MOST_FIGURES" = some (.int 2000 tk_MOST_FIGURES)) : FnOk P w K mg base CX0 1 f fd ["word"] sp_is_number := by
  refine F.ok sc_is_number (fun vs H Q E h => by unfold sp_is_number at h; obtain ⟨_, rfl, _⟩ := h; rfl) (fun cdv A outer s H vs Q E hr h => ?_)
  unfold sp_is_number at h
  obtain ⟨x, rfl, hx, q⟩ := h
  have hu := hu40 hr
  refine ⟨_, (pss_cons (psCut (psS (i := 1) sc_is_number.nd (peIf (ptV (peM_startswith (K := K) rfl (pq 0) (pa_cons pe_str pa_nil))) (pe_slice (slZK (K := K) rfl) (pq 0) (poSome pe_int) po_none) (pq 0))))
      (pss_cons (psCut (psIf (ptW (pwOr (pt_not (ptChain oLe oLe pe_int (pB (cLenK (K := K) rfl) N.len_ bt_len (pa_cons (pq 1) pa_nil)) (pe_glob (v := .int 2000) rfl c_MOST_FIGURES ⟨_, rfl⟩))) (pw_or1 (pt_not (ptV (pB (cAllK (K := K) rfl rfl) N.all_ bt_all (pa_cons (peComp (N := ["sign"]) (ks := [none]) (piStr (pq 1)) (fun cl C s3 H3 fp => (pg_name (i := 0) nb_0 rfl (by first | exact Or.inl rfl | exact Or.inr rfl))) (fun cl C s3 H3 fp => pts_nil) (fun cl C s3 H3 fp => (peC (oInTTK (K := K) rfl (by exact hu)) (pq 0) (pe_glob (v := .str "0123456789") rfl c_FIGURES ⟨_, rfl⟩))) (.skip .nil)) pa_nil))))))) (pss_one (ps_ret pe_bl)) pss_nil))
      (pss_one (ps_ret (peOr (peC (oNeXK (K := K) rfl (by exact hu)) (peIxK (K := K) rfl (pq 1) pe_int) pe_str) (pe_one (peC (oEqXK (K := K) rfl (by exact hu)) (pq 0) pe_str))))))), ?_⟩
  refine cut_rd (fun σ J => ∃ y : Str, σ = [some (.str x), some (.str y)] ∧ J = H ∧ y.cps.toList = figL x.cps.toList ∧ y.length ≤ 1000000) ?_ ?_
  · walk_at "wh"
    rw [start_minus]
    refine br_dec (fun h => ?_) (fun h => ?_)
    · walk_at "wh"
      refine ⟨by rw [sizeLine_eq]; omega, ?_⟩
      walk_at "wh"
      exact ⟨_, rfl, rfl, by rw [slice1 h, figL_minus h], Nat.le_trans (Txt.slice_le _ _ _) hx⟩
    · walk_at "wh"
      exact ⟨x, rfl, rfl, (figL_other h).symm, hx⟩
  rintro σ J ⟨y, rfl, rfl, ey, ly⟩
  have yl : y.length = (figL x.cps.toList).length := by rw [← ey]; exact Array.length_toList.symm
  have fin : ∀ b, numB x.cps.toList = b → ∀ J', Same J J' → Q (.bl b) J' := fun b e J' sJ => by rw [← e]; exact q J' sJ
  walk_at "wh"
  refine cut_id ?_
  walk_at "wh"
  refine ⟨by rw [sizeLine_eq]; omega, ?_⟩
  have bools : ∀ n, n = y.cps.size → ((List.range n).map fun j => V.bl (decide (48 ≤ y.cps.toList.getD j 0 ∧ y.cps.toList.getD j 0 ≤ 57))) = (y.cps.toList.map fun c => decide (48 ≤ c ∧ c ≤ 57)).map V.bl := fun n hn => by
    subst hn
    apply List.ext_getElem?
    intro i
    rw [List.getElem?_map, List.getElem?_map, List.getElem?_map]
    by_cases hi : i < y.cps.toList.length
    · rw [List.getElem?_range (by rwa [Array.length_toList] at hi), List.getElem?_eq_getElem hi]
      show some (V.bl (decide (48 ≤ y.cps.toList.getD i 0 ∧ y.cps.toList.getD i 0 ≤ 57))) = _
      rw [List.getD_eq_getElem?_getD, List.getElem?_eq_getElem hi]
      rfl
    · rw [List.getElem?_eq_none (by rw [List.length_range]; rw [Array.length_toList] at hi; omega), List.getElem?_eq_none (by walk_at "om")]
      rfl
  refine br_dec (fun h1 => ?_) (fun h1 => ?_)
  rotate_left
  · walk_at "wh"
    refine br_T ?_
    refine br_T ?_
    walk_at "wh"
    refine fin false ?_ J (Same.refl _)
    unfold numB
    rw [decide_eq_false (by walk_at "om")]
    rfl
  refine br_not (br_dec (fun h2 => ?_) (fun h2 => ?_))
  rotate_left
  · walk_at "wh"
    refine br_T ?_
    walk_at "wh"
    refine fin false ?_ J (Same.refl _)
    unfold numB
    rw [decide_eq_false (show ¬ (figL x.cps.toList).length ≤ 2000 by walk_at "om"), Bool.and_false]
    rfl
  refine iterS_rd ?_
  refine comp_I Wk.str (by rw [sizeLine_eq]; show y.length < _; omega) (fun j => .bl (decide (48 ≤ y.cps.toList.getD j 0 ∧ y.cps.toList.getD j 0 ≤ 57))) (fun _ => true) (fun j σ => ∃ t : Option V, σ = [t]) ⟨none, rfl⟩ ?_ ?_
  · rintro j v σ J' R' S' hj sJ ⟨c, ec, rfl⟩ ⟨_, rfl⟩ kk _
    rw [show y.cps.toList.getD j 0 = c by rw [List.getD_eq_getElem?_getD, Array.getElem?_toList, ec]; rfl, ← has_fig] at kk
    refine br_T ?_
    walk_at "wh"
    exact kk rfl _ _ (Same.refl _) ⟨_, rfl⟩
  intro acc J1 g1 s1 k1
  rw [filter_T, bools _ rfl, ey] at k1
  refine all_rd k1 ?_
  rw [List.all_map]
  have ea : (figL x.cps.toList).all (id ∘ fun c => decide (48 ≤ c ∧ c ≤ 57)) = (figL x.cps.toList).all (fun c => decide (48 ≤ c ∧ c ≤ 57)) := rfl
  rw [ea]
  have n1 : decide (1 ≤ (figL x.cps.toList).length) = true := decide_eq_true (by walk_at "om")
  have n2 : decide ((figL x.cps.toList).length ≤ 2000) = true := decide_eq_true (by walk_at "om")
  cases al : (figL x.cps.toList).all (fun c => decide (48 ≤ c ∧ c ≤ 57))
  · walk_at "wh"
    first | refine br_not (br_F ?_) | refine br_T ?_
    walk_at "wh"
    refine fin false ?_ J1 s1
    unfold numB
    rw [al, Bool.and_false]
    rfl
  walk_at "wh"
  first | refine br_not (br_T ?_) | refine br_F ?_
  obtain ⟨c, r, ec⟩ : ∃ c r, figL x.cps.toList = c :: r := by
    cases e : figL x.cps.toList with
    | nil => rw [e] at yl; exact absurd yl (by show ¬ y.length = 0; omega)
    | cons c r => exact ⟨c, r, rfl⟩
  walk_at "wh"
  refine ⟨c, by rw [sizeLine_eq]; omega, by rw [ey, ec]; exact atI_nat (j := 0) rfl, ?_⟩
  have c0 : decide ((⟨#[c]⟩ : Str) = "0") = decide (c = 48) := by
    rw [decide_eq_decide]
    exact ⟨fun h => by have := congrArg (fun s : Str => s.cps.toList) h; rw [show ("0" : Str).cps.toList = [48] by decide +kernel] at this; simpa using this, fun h => by rw [h]; rfl⟩
  have x0 : decide (x = "0") = decide (x.cps.toList = [48]) := by
    rw [decide_eq_decide]
    exact ⟨fun h => by rw [h]; decide +kernel, fun h => PyProof.Rows.ext_toList (h.trans (by decide +kernel))⟩
  have fb : numB x.cps.toList = (!decide (c = 48) || decide (x.cps.toList = [48])) := by
    unfold numB
    rw [n1, n2, al, ec]
    show (true && true && true && (decide ((some c : Option Nat) ≠ some 48) || _)) = _
    rw [Bool.and_self, Bool.and_self, Bool.true_and]
    congr 1
    by_cases hc : c = 48
    · simp [hc]
    · simp [hc]
  walk_at "wh"
  rw [c0]
  by_cases hc : c = 48
  · rw [decide_eq_true hc]
    refine br_not (br_T ?_)
    walk_at "wh"
    rw [x0]
    exact fin _ (by rw [fb, decide_eq_true hc]; rfl) J1 s1
  · rw [decide_eq_false hc]
    refine br_not (br_F ?_)
    walk_at "wh"
    exact fin true (by rw [fb, decide_eq_false hc]; rfl) J1 s1
-- @@split

/-! ### a row of any text -/
def valS (x : Str) : Int := (PySem.intText? x).getD 0
theorem numB_int {x : Str} (h : numB x.cps.toList = true) : PySem.intText? x = some (valS x) := by
  unfold numB at h
  rw [Bool.and_eq_true, Bool.and_eq_true, Bool.and_eq_true, decide_eq_true_eq, decide_eq_true_eq] at h
  obtain ⟨⟨⟨l1, l2⟩, al⟩, _⟩ := h
  have dg : ∀ c ∈ figL x.cps.toList, 48 ≤ c ∧ c ≤ 57 := fun c hc => of_decide_eq_true (List.all_eq_true.mp al c hc)
  have xl : x.length = x.cps.toList.length := Array.length_toList.symm
  have ne : figL x.cps.toList ≠ [] := fun z => by rw [z] at l1; exact absurd l1 (by decide)
  have ex : ∃ n, PySem.intText? x = some n := by
    by_cases hm : x.cps.toList.head? = some 45
    · rw [figL_minus hm] at dg l2 ne
      obtain ⟨cs, ec⟩ : ∃ cs, x.cps.toList = 45 :: cs := by
        cases e : x.cps.toList with
        | nil => rw [e] at hm; cases hm
        | cons c r => rw [e] at hm; cases hm; exact ⟨r, rfl⟩
      rw [ec] at dg l2 ne
      exact ⟨_, intText_neg ec dg ne (by rw [xl, ec, List.length_cons]; have : cs.length ≤ 2000 := l2; omega)⟩
    · rw [figL_other hm] at dg l2 ne
      exact ⟨_, intText_digits dg ne (by rw [xl]; omega)⟩
  obtain ⟨n, e⟩ := ex
  unfold valS
  rw [e]
  rfl
def wordsS (x : Str) : List Str := Txt.split x " "
def rowP (x : Str) : Option Rw := if (hasW ((wordsS x).headD ⟨#[]⟩) ((wordsS x).tail.length : Int) && (wordsS x).tail.all (fun w => numB w.cps.toList)) = true then some ((wordsS x).headD ⟨#[]⟩, (wordsS x).tail.map valS) else none
theorem words_cons (x : Str) : ∃ w ws, wordsS x = w :: ws := by
  have := PyProof.Rows.split_pos x " "
  cases e : wordsS x with
  | nil => unfold wordsS at e; rw [e] at this; exact absurd this (by decide)
  | cons w ws => exact ⟨w, ws, rfl⟩
theorem word_short {x w : Str} (h : w ∈ wordsS x) : w.length ≤ x.length := PyProof.Rows.part_short h
theorem words_le (x : Str) : (wordsS x).length ≤ x.length + 2 := PyProof.Rows.split_le x " "
theorem rowP_w {x : Str} {r : Rw} (h : rowP x = some r) : hasW r.1 (r.2.length : Int) = true := by
  unfold rowP at h
  split at h
  · rename_i hh
    cases h
    rw [Bool.and_eq_true] at hh
    rw [List.length_map]
    exact hh.1
  · cases h
@[irreducible] def sp_read_row : Sp := fun vs H Q _ => ∃ (x : Str), vs = [.str x] ∧ x.length ≤ 1000000 ∧ (rowP x = none → ∀ H', Same H H' → Q .non H') ∧ ∀ r, rowP x = some r → ∀ p H', H p = none → Same H H' → RwT H' p r → Q (.ref p) H'
theorem read_row_rd {H : Hp} {x : Str} {Q : VK} {E : XK} (h : x.length ≤ 1000000) (q1 : rowP x = none → ∀ H', Same H H' → Q .non H') (q2 : ∀ r, rowP x = some r → ∀ p H', H p = none → Same H H' → RwT H' p r → Q (.ref p) H') : sp_read_row [.str x] H Q E := by unfold sp_read_row; exact ⟨x, rfl, h, q1, q2⟩
theorem range_vals {α : Type} {f : α → V} {xs : List α} {d : α} {n : Nat} (hn : n = xs.length) : ((List.range n).map fun j => f (xs.getD j d)) = xs.map f := by
  subst hn
  apply List.ext_getElem?
  intro i
  rw [List.getElem?_map, List.getElem?_map]
  by_cases hi : i < xs.length
  · rw [List.getElem?_range hi, List.getElem?_eq_getElem hi]
    show some (f (xs.getD i d)) = _
    rw [List.getD_eq_getElem?_getD, List.getElem?_eq_getElem hi]
    rfl
  · rw [List.getElem?_eq_none (by simpa using hi), List.getElem?_eq_none (by walk_at "om")]
    rfl
set_option maxHeartbeats 0 in
theorem ok_read_row {f : Addr} {fd : FuncData} (F : Fun K "read_row" "read_row" s_read_row f fd) (N : Nm mg) (hD : PySem.W.nsIn K cStatics "sys.int_max_str_digits" = some none) (D_has_wanted : Def P w K mg base CX0 1 "has_wanted" ["word", "many"] sp_has_wanted) (D_is_number : Def P w K mg base CX0 1 "is_number" ["word"] sp_is_number) : FnOk P w K mg base CX0 2 f fd ["piece"] sp_read_row := by
  refine F.ok sc_read_row (fun vs H Q E h => by unfold sp_read_row at h; obtain ⟨_, rfl, _⟩ := h; rfl) (fun cdv A outer s H vs Q E hr h => ?_)
  unfold sp_read_row at h
  obtain ⟨x, rfl, hx, q1, q2⟩ := h
  have hu := hu40 hr
  obtain ⟨w0, ws, ew⟩ := words_cons x
  have wl := words_le x
  have sh : ∀ w ∈ w0 :: ws, w.length ≤ 1000000 := fun w hw => Nat.le_trans (word_short (by rw [ew]; exact hw)) hx
  rw [ew, List.length_cons] at wl
  have rp : rowP x = if (hasW w0 (ws.length : Int) && ws.all (fun w => numB w.cps.toList)) = true then some (w0, ws.map valS) else none := by
    unfold rowP
    rw [ew]
    rfl
  rw [rp] at q1 q2
  refine ⟨_, (pss_cons (psS (i := 1) sc_read_row.nd (peM_split (K := K) rfl (pq 0) (pa_cons pe_str pa_nil)))
      (pss_cons (psIf (ptW (pwOr (pt_not (ptV (pD D_has_wanted hr pass0 (pa_cons (peIxK (K := K) rfl (pq 1) pe_int) (pa_cons (pe_op oSub (pB (cLenK (K := K) rfl) N.len_ bt_len (pa_cons (pq 1) pa_nil)) pe_int) pa_nil))))) (pw_or1 (pt_not (ptV (pB (cAllK (K := K) rfl rfl) N.all_ bt_all (pa_cons (peComp (N := ["word"]) (ks := [none]) (piSeqK (K := K) rfl (pe_slice (slZK (K := K) rfl) (pq 1) (poSome pe_int) po_none)) (fun cl C s3 H3 fp => (pg_name (i := 0) nb_1 rfl (by first | exact Or.inl rfl | exact Or.inr rfl))) (fun cl C s3 H3 fp => pts_nil) (fun cl C s3 H3 fp => (pD D_is_number hr pass0 (pa_cons (pq 0) pa_nil))) (.skip .nil)) pa_nil))))))) (pss_one (ps_ret pe_non)) pss_nil)
      (pss_one (ps_ret (pT (cTupK (K := K) rfl) N.tuple_ bt_tuple (pa_cons (pe_op oAdd (peLst (pa_cons (peIxK (K := K) rfl (pq 1) pe_int) pa_nil)) (peComp (N := ["word"]) (ks := [none]) (piSeqK (K := K) rfl (pe_slice (slZK (K := K) rfl) (pq 1) (poSome pe_int) po_none)) (fun cl C s3 H3 fp => (pg_name (i := 0) nb_1 rfl (by first | exact Or.inl rfl | exact Or.inr rfl))) (fun cl C s3 H3 fp => pts_nil) (fun cl C s3 H3 fp => (pT (cIntL (K := K) rfl hD) N.int_ bt_int (pa_cons (pq 0) pa_nil))) (.skip .nil))) pa_nil)))))), ?_⟩
  refine split_rd (by decide +kernel) (by rw [sizeLine_eq]; omega) (fun l H1 g1 s1 k1 => ?_)
  rw [show Txt.split x (Str.ofString " ") = w0 :: ws from ew] at k1
  refine ixL_rd (v := .str w0) k1 (atI_nat (j := 0) rfl) ?_
  refine lenL_rd k1 ?_
  rw [List.length_map, List.length_cons]
  refine has_wanted_rd ?_
  rw [show ((ws.length + 1 : Nat) : Int) - 1 = (ws.length : Int) by walk_at "om"]
  cases hw : hasW w0 (ws.length : Int)
  · rw [hw, Bool.false_and, if_neg Bool.false_ne_true] at q1
    refine br_not (br_F ?_)
    refine br_T ?_
    walk_at "wh"
    exact q1 rfl H1 s1
  rw [hw, Bool.true_and] at q1 q2
  refine br_not (br_T ?_)
  refine slL_rd (SqL.of k1) (fun l2 H2 g2 s2 k2 => ?_)
  rw [cut_drop (by decide)] at k2
  have k2 : H2 l2 = some (.lst (ws.map V.str)) := k2
  refine iterL_rd k2 ?_
  refine comp_I (n := (ws.map V.str).length) (Wk.list (SqL.of k2)) (by rw [List.length_map, sizeLine_eq]; omega) (fun j => .bl ((ws.map fun w => numB w.cps.toList).getD j false)) (fun _ => true) (fun j σ => ∃ t : Option V, σ = [t]) ⟨none, rfl⟩ ?_ ?_
  · rintro j v σ J' R' S' hj sJ hx ⟨_, rfl⟩ kk _
    rw [List.getElem?_map] at hx
    obtain ⟨w, en, rfl⟩ := Option.map_eq_some_iff.mp hx
    rw [show (ws.map fun w => numB w.cps.toList).getD j false = numB w.cps.toList by rw [List.getD_eq_getElem?_getD, List.getElem?_map, en]; rfl] at kk
    refine br_T ?_
    refine is_number_rd (sh w (List.mem_cons_of_mem _ (List.mem_of_getElem? en))) (fun J1 t1 => ?_)
    walk_at "wh"
    exact kk rfl _ _ t1 ⟨_, rfl⟩
  intro acc H3 g3 s3 k3
  rw [filter_T, range_vals (f := V.bl) (xs := ws.map fun w => numB w.cps.toList) (d := false) (by rw [List.length_map, List.length_map])] at k3
  refine all_rd k3 ?_
  rw [List.all_map, show ws.all (id ∘ fun w => numB w.cps.toList) = ws.all (fun w => numB w.cps.toList) from rfl]
  have s13 := s2.trans s3
  cases ha : ws.all (fun w => numB w.cps.toList)
  · rw [ha, if_neg Bool.false_ne_true] at q1
    walk_at "wh"
    first | refine br_not (br_F ?_) | refine br_T ?_
    walk_at "wh"
    exact q1 rfl H3 (s1.trans s13)
  rw [ha, if_pos rfl] at q2
  walk_at "wh"
  first | refine br_not (br_T ?_) | refine br_F ?_
  refine ixL_rd (v := .str w0) (s13 _ _ k1) (atI_nat (j := 0) rfl) ?_
  refine newL_rd (fun l4 H4 g4 s4 k4 => ?_)
  refine slL_rd (SqL.of ((s13.trans s4) _ _ k1)) (fun l5 H5 g5 s5 k5 => ?_)
  rw [cut_drop (by decide)] at k5
  have k5 : H5 l5 = some (.lst (ws.map V.str)) := k5
  refine iterL_rd k5 ?_
  refine comp_I (n := (ws.map V.str).length) (Wk.list (SqL.of k5)) (by rw [List.length_map, sizeLine_eq]; omega) (fun j => .int ((ws.map valS).getD j 0)) (fun _ => true) (fun j σ => ∃ t : Option V, σ = [t]) ⟨none, rfl⟩ ?_ ?_
  · rintro j v σ J' R' S' hj sJ hx ⟨_, rfl⟩ kk _
    rw [List.getElem?_map] at hx
    obtain ⟨w, en, rfl⟩ := Option.map_eq_some_iff.mp hx
    have hm := List.mem_of_getElem? en
    rw [show (ws.map valS).getD j 0 = valS w by rw [List.getD_eq_getElem?_getD, List.getElem?_map, en]; rfl] at kk
    refine br_T ?_
    refine intL_rd (numB_int (List.all_eq_true.mp ha w hm)) (by have := sh w (List.mem_cons_of_mem _ hm); rw [sizeLine_eq]; omega) ?_
    walk_at "wh"
    exact kk rfl _ _ (Same.refl _) ⟨_, rfl⟩
  intro acc2 H6 g6 s6 k6
  rw [filter_T, range_vals (f := V.int) (xs := ws.map valS) (d := 0) (by rw [List.length_map, List.length_map])] at k6
  refine cat_rd ((s5.trans s6) _ _ k4) k6 (by rw [List.length_map, List.length_map, sizeLine_eq, List.length_singleton]; omega) (fun l7 H7 g7 s7 k7 => ?_)
  refine tupL_rd (SqL.of k7) (fun p H8 g8 s8 k8 => ?_)
  walk_at "wh"
  have s07 := ((((s1.trans s13).trans s4).trans s5).trans s6).trans s7
  exact q2 _ rfl p H8 (s07.free g8) (s07.trans s8) k8
-- @@split
/-! ### a row read -/
/-- rows of the form of a paper's -/
def RgR (r : Rw) : Prop := (r.1 = "flow" ∧ r.2.length = 4) ∨ (r.1 = "number" ∧ r.2.length = 3)
theorem RgR.free {r : Rw} (h : RgR r) {c : Nat} (hc : c = 32 ∨ c = 10) : c ∉ r.1.cps.toList := by
  rcases h with ⟨h1, _⟩ | ⟨h1, _⟩ <;> rw [h1]
  · rw [show ("flow" : Str).cps.toList = [102, 108, 111, 119] by decide +kernel]
    simp only [List.mem_cons, List.not_mem_nil, or_false]
    omega
  · rw [show ("number" : Str).cps.toList = [110, 117, 109, 98, 101, 114] by decide +kernel]
    simp only [List.mem_cons, List.not_mem_nil, or_false]
    omega
/-! ### rows that stand behind one another -/
def fsB : Option Rw → Rw → Bool
  | none, r => decide (r.2.getD 0 0 = 0)
  | some a, r => decide (a.1 = "flow") && (decide (r.2.getD 0 0 - a.2.getD 0 0 = 0) || decide (r.2.getD 0 0 - a.2.getD 0 0 = 1))
def nsB : Option Rw → Rw → Bool
  | none, r => decide (r.2.getD 0 0 = 0 ∧ r.2.getD 1 0 = 0)
  | some a, r => if a.1 = "flow" then decide (r.2.getD 0 0 = 0 ∧ r.2.getD 1 0 = 0) else decide (r.2.getD 0 0 = a.2.getD 0 0 ∧ r.2.getD 1 0 = a.2.getD 1 0 + 1) || decide (r.2.getD 0 0 = a.2.getD 0 0 + 1 ∧ r.2.getD 1 0 = 0)
def spB (a : Option Rw) (r : Rw) : Bool := if r.1 = "flow" then fsB a r else decide (r.1 = "number") && nsB a r
/-- the row ahead as it is handed on -/
def AhV (H : Hp) (v : V) : Option Rw → Prop
  | none => v = .non
  | some r => ∃ p, v = .ref p ∧ RwT H p r ∧ RgR r
theorem AhV.same {H H' : Hp} {v : V} {a : Option Rw} (h : AhV H v a) (s : Same H H') : AhV H' v a := by
  cases a with
  | none => exact h
  | some r => obtain ⟨p, e, h1, h2⟩ := h; exact ⟨p, e, s _ _ h1, h2⟩
theorem RgR.get {r : Rw} (h : RgR r) {i : Nat} (hi : i < 3) : (V.str r.1 :: r.2.map V.int)[i + 1]? = some (.int (r.2.getD i 0)) := by
  have l : i < r.2.length := by rcases h with ⟨_, h⟩ | ⟨_, h⟩ <;> omega
  rw [List.getElem?_cons_succ, List.getElem?_map, List.getD_eq_getElem?_getD, List.getElem?_eq_getElem l]
  rfl
theorem inV_01 (d : Int) : inV (.int d) [.int 0, .int 1] = (decide (d = 0) || decide (d = 1)) := by
  show (eqV (.int 0) (.int d) || (eqV (.int 1) (.int d) || false)) = _
  rw [Bool.or_false]
  show (decide ((0 : Int) = d) || decide ((1 : Int) = d)) = _
  rw [show decide ((0 : Int) = d) = decide (d = 0) by rw [decide_eq_decide]; exact eq_comm, show decide ((1 : Int) = d) = decide (d = 1) by rw [decide_eq_decide]; exact eq_comm]
@[irreducible] def sp_flow_stands : Sp := fun vs H Q _ => ∃ (v : V) (p : Addr) (a : Option Rw) (r : Rw), vs = [v, .ref p] ∧ AhV H v a ∧ RwT H p r ∧ RgR r ∧ ∀ H', Same H H' → Q (.bl (fsB a r)) H'
theorem flow_stands_rd {H : Hp} {v : V} {p : Addr} {a : Option Rw} {r : Rw} {Q : VK} {E : XK} (h1 : AhV H v a) (h2 : RwT H p r) (h3 : RgR r) (q : ∀ H', Same H H' → Q (.bl (fsB a r)) H') : sp_flow_stands [v, .ref p] H Q E := by unfold sp_flow_stands; exact ⟨v, p, a, r, rfl, h1, h2, h3, q⟩
set_option maxHeartbeats 0 in
theorem ok_flow_stands {f : Addr} {fd : FuncData} (F : Fun K "flow_stands" "flow_stands" s_flow_stands f fd) (N : Nm mg) : FnOk P w K mg base CX0 1 f fd ["ahead", "row"] sp_flow_stands := by
  refine F.ok sc_flow_stands (fun vs H Q E h => by unfold sp_flow_stands at h; obtain ⟨_, _, _, _, rfl, _⟩ := h; rfl) (fun cdv A outer s H vs Q E hr h => ?_)
  unfold sp_flow_stands at h
  obtain ⟨v, p, a, r, rfl, h1, h2, h3, q⟩ := h
  have hu := hu40 hr
  have r0 := atI_nat (h3.get (i := 0) (by decide))
  refine ⟨_, (pss_cons (psIf (ptC oIsX (pq 0) pe_non) (pss_one (ps_ret (peC (oEqXK (K := K) rfl (by exact hu)) (peIxK (K := K) rfl (pq 1) pe_int) pe_int))) pss_nil)
      (pss_one (ps_ret (peAnd (peC (oEqXK (K := K) rfl (by exact hu)) (peIxK (K := K) rfl (pq 0) pe_int) pe_str) (pe_one (peC (oInTTK (K := K) rfl (by exact hu)) (pe_op oSub (peIxK (K := K) rfl (pq 1) pe_int) (peIxK (K := K) rfl (pq 0) pe_int)) (peTup (pa_cons pe_int (pa_cons pe_int pa_nil))))))))), ?_⟩
  cases a with
  | none =>
    cases (show v = .non from h1)
    walk_at "wh"
    first | refine br_T ?_ | refine br_dT rfl ?_
    refine ixT_rd (v := .int (r.2.getD 0 0)) h2 r0 ?_
    walk_at "wh"
    exact q H (Same.refl _)
  | some b =>
    obtain ⟨pa, rfl, g1, g2⟩ := h1
    have a0 := atI_nat (g2.get (i := 0) (by decide))
    have q : ∀ H', Same H H' → Q (.bl (decide (b.1 = "flow") && (decide (r.2.getD 0 0 - b.2.getD 0 0 = 0) || decide (r.2.getD 0 0 - b.2.getD 0 0 = 1)))) H' := q
    walk_at "wh"
    first | refine br_F ?_ | refine br_dF (fun z => by cases z) ?_
    refine ixT_rd (v := .str b.1) g1 (atI_nat (j := 0) rfl) ?_
    walk_at "wh"
    by_cases hb : b.1 = "flow"
    · rw [decide_eq_true hb] at q ⊢
      refine br_T ?_
      refine ixT_rd (v := .int (r.2.getD 0 0)) h2 r0 ?_
      refine ixT_rd (v := .int (b.2.getD 0 0)) g1 a0 ?_
      refine newT_rd (fun t H1 f1 s1 k1 => ?_)
      refine inT_rd (SqT.of k1) rfl rfl ?_
      rw [inV_01]
      exact q H1 s1
    · rw [decide_eq_false hb] at q ⊢
      refine br_F ?_
      walk_at "wh"
      exact q H (Same.refl _)
@[irreducible] def sp_number_stands : Sp := fun vs H Q _ => ∃ (v : V) (p : Addr) (a : Option Rw) (r : Rw), vs = [v, .ref p] ∧ AhV H v a ∧ RwT H p r ∧ RgR r ∧ ∀ H', Same H H' → Q (.bl (nsB a r)) H'
theorem number_stands_rd {H : Hp} {v : V} {p : Addr} {a : Option Rw} {r : Rw} {Q : VK} {E : XK} (h1 : AhV H v a) (h2 : RwT H p r) (h3 : RgR r) (q : ∀ H', Same H H' → Q (.bl (nsB a r)) H') : sp_number_stands [v, .ref p] H Q E := by unfold sp_number_stands; exact ⟨v, p, a, r, rfl, h1, h2, h3, q⟩
set_option maxHeartbeats 0 in
theorem ok_number_stands {f : Addr} {fd : FuncData} (F : Fun K "number_stands" "number_stands" s_number_stands f fd) (N : Nm mg) : FnOk P w K mg base CX0 1 f fd ["ahead", "row"] sp_number_stands := by
  refine F.ok sc_number_stands (fun vs H Q E h => by unfold sp_number_stands at h; obtain ⟨_, _, _, _, rfl, _⟩ := h; rfl) (fun cdv A outer s H vs Q E hr h => ?_)
  unfold sp_number_stands at h
  obtain ⟨v, p, a, r, rfl, h1, h2, h3, q⟩ := h
  have hu := hu40 hr
  have r0 := atI_nat (h3.get (i := 0) (by decide))
  have r1 := atI_nat (h3.get (i := 1) (by decide))
  refine ⟨_, (pss_cons (psS (i := 2) sc_number_stands.nd (peTup (pa_cons (peIxK (K := K) rfl (pq 1) pe_int) (pa_cons (peIxK (K := K) rfl (pq 1) pe_int) pa_nil))))
      (pss_cons (psIf (ptW (pwOr (ptC oIsX (pq 0) pe_non) (pw_or1 (ptC (oEqXK (K := K) rfl (by exact hu)) (peIxK (K := K) rfl (pq 0) pe_int) pe_str)))) (pss_one (ps_ret (peC (oEqXK (K := K) rfl (by exact hu)) (pq 2) (peTup (pa_cons pe_int (pa_cons pe_int pa_nil)))))) pss_nil)
      (pss_one (ps_ret (peC (oInTTK (K := K) rfl (by exact hu)) (pq 2) (peTup (pa_cons (peTup (pa_cons (peIxK (K := K) rfl (pq 0) pe_int) (pa_cons (pe_op oAdd (peIxK (K := K) rfl (pq 0) pe_int) pe_int) pa_nil))) (pa_cons (peTup (pa_cons (pe_op oAdd (peIxK (K := K) rfl (pq 0) pe_int) pe_int) (pa_cons pe_int pa_nil))) pa_nil)))))))), ?_⟩
  refine ixT_rd (v := .int (r.2.getD 0 0)) h2 r0 ?_
  refine ixT_rd (v := .int (r.2.getD 1 0)) h2 r1 ?_
  refine newT_rd (fun t H1 f1 s1 k1 => ?_)
  have z : ∀ b, (nsB a r = b) → b = decide (r.2.getD 0 0 = 0 ∧ r.2.getD 1 0 = 0) → ∀ u H2, Same H1 H2 → H2 u = some (.tup [.int 0, .int 0]) → rEqXM K (.ref t) (.ref u) H2 Q := fun b e1 e2 u H2 s2 k2 => by
    have := q H2 (s1.trans s2)
    rw [e1, e2] at this
    exact eqX_rd (EqR.ints2 (s2 _ _ k1) k2) this
  cases a with
  | none =>
    cases (show v = .non from h1)
    walk_at "wh"
    first | refine br_T ?_ | refine br_dT rfl ?_
    walk_at "wh"
    first | refine br_T ?_ | skip
    refine newT_rd (fun u H2 f2 s2 k2 => ?_)
    walk_at "wh"
    exact z _ rfl rfl u H2 s2 k2
  | some b =>
    obtain ⟨pa, rfl, g1, g2⟩ := h1
    have a0 := atI_nat (g2.get (i := 0) (by decide))
    have a1 := atI_nat (g2.get (i := 1) (by decide))
    have g1' := s1 _ _ g1
    walk_at "wh"
    first | refine br_F ?_ | refine br_dF (fun z => by cases z) ?_
    refine ixT_rd (v := .str b.1) g1' (atI_nat (j := 0) rfl) ?_
    refine br_dec (fun hb => ?_) (fun hb => ?_)
    · walk_at "wh"
      refine newT_rd (fun u H2 f2 s2 k2 => ?_)
      walk_at "wh"
      exact z _ rfl (by show (if b.1 = "flow" then _ else _) = _; rw [if_pos hb]) u H2 s2 k2
    · have q : ∀ H', Same H H' → Q (.bl (decide (r.2.getD 0 0 = b.2.getD 0 0 ∧ r.2.getD 1 0 = b.2.getD 1 0 + 1) || decide (r.2.getD 0 0 = b.2.getD 0 0 + 1 ∧ r.2.getD 1 0 = 0))) H' := by
        have q : ∀ H', Same H H' → Q (.bl (if b.1 = "flow" then decide (r.2.getD 0 0 = 0 ∧ r.2.getD 1 0 = 0) else decide (r.2.getD 0 0 = b.2.getD 0 0 ∧ r.2.getD 1 0 = b.2.getD 1 0 + 1) || decide (r.2.getD 0 0 = b.2.getD 0 0 + 1 ∧ r.2.getD 1 0 = 0))) H' := q
        simp only [if_neg hb] at q
        exact q
      refine ixT_rd (v := .int (b.2.getD 0 0)) g1' a0 ?_
      refine ixT_rd (v := .int (b.2.getD 1 0)) g1' a1 ?_
      refine newT_rd (fun u H2 f2 s2 k2 => ?_)
      refine ixT_rd (v := .int (b.2.getD 0 0)) (s2 _ _ g1') a0 ?_
      refine newT_rd (fun u2 H3 f3 s3 k3 => ?_)
      refine newT_rd (fun u3 H4 f4 s4 k4 => ?_)
      have s24 := s3.trans s4
      walk_at "wh"
      have nuu : u ≠ u2 := ne_of_none k2 f3
      refine inTT_rd (rs := [u, u2]) (c := fun x => if x = u then decide (b.2.getD 0 0 = r.2.getD 0 0 ∧ b.2.getD 1 0 + 1 = r.2.getD 1 0) else decide (b.2.getD 0 0 + 1 = r.2.getD 0 0 ∧ 0 = r.2.getD 1 0)) 1 k4 (by decide) (fun x hx => ?_) ?_
      · simp only [List.mem_cons, List.not_mem_nil, or_false] at hx
        rcases hx with rfl | rfl
        · rw [if_pos rfl]
          exact EqR.ints2 (s24 _ _ k2) ((s2.trans s24) _ _ k1)
        · rw [if_neg (Ne.symm nuu)]
          exact EqR.ints2 (s4 _ _ k3) ((s2.trans s24) _ _ k1)
      · have := q H4 ((s1.trans s2).trans s24)
        show Q (.bl ([u, u2].any fun x => if x = u then decide (b.2.getD 0 0 = r.2.getD 0 0 ∧ b.2.getD 1 0 + 1 = r.2.getD 1 0) else decide (b.2.getD 0 0 + 1 = r.2.getD 0 0 ∧ 0 = r.2.getD 1 0))) H4
        rw [List.any_cons, List.any_cons, List.any_nil, Bool.or_false, if_pos rfl, if_neg (Ne.symm nuu)]
        rw [show decide (b.2.getD 0 0 = r.2.getD 0 0 ∧ b.2.getD 1 0 + 1 = r.2.getD 1 0) = decide (r.2.getD 0 0 = b.2.getD 0 0 ∧ r.2.getD 1 0 = b.2.getD 1 0 + 1) by rw [decide_eq_decide]; exact ⟨fun h => ⟨h.1.symm, h.2.symm⟩, fun h => ⟨h.1.symm, h.2.symm⟩⟩, show decide (b.2.getD 0 0 + 1 = r.2.getD 0 0 ∧ 0 = r.2.getD 1 0) = decide (r.2.getD 0 0 = b.2.getD 0 0 + 1 ∧ r.2.getD 1 0 = 0) by rw [decide_eq_decide]; exact ⟨fun h => ⟨h.1.symm, h.2.symm⟩, fun h => ⟨h.1.symm, h.2.symm⟩⟩]
        exact this
/-- rows with as many numbers as are wanted -/
def RgW (r : Rw) : Prop := hasW r.1 (r.2.length : Int) = true
theorem RgW.rg {r : Rw} (h : RgW r) (e : r.1 = "flow" ∨ r.1 = "number") : RgR r := by
  unfold RgW hasW at h
  rcases e with e | e
  · rw [e, if_neg (by decide +kernel), decide_eq_true_eq] at h
    have h : (.int 4 : V) = .int (r.2.length : Int) := (show lookS WT "flow" = .int 4 by decide +kernel) ▸ h
    exact .inl ⟨e, by have := V.int.inj h; omega⟩
  · rw [e, if_neg (by decide +kernel), decide_eq_true_eq] at h
    have h : (.int 3 : V) = .int (r.2.length : Int) := (show lookS WT "number" = .int 3 by decide +kernel) ▸ h
    exact .inr ⟨e, by have := V.int.inj h; omega⟩
@[irreducible] def sp_stands_in_paper : Sp := fun vs H Q _ => ∃ (v : V) (p : Addr) (a : Option Rw) (r : Rw), vs = [v, .ref p] ∧ AhV H v a ∧ RwT H p r ∧ RgW r ∧ ∀ H', Same H H' → Q (.bl (spB a r)) H'
theorem stands_rd {H : Hp} {v : V} {p : Addr} {a : Option Rw} {r : Rw} {Q : VK} {E : XK} (h1 : AhV H v a) (h2 : RwT H p r) (h3 : RgW r) (q : ∀ H', Same H H' → Q (.bl (spB a r)) H') : sp_stands_in_paper [v, .ref p] H Q E := by unfold sp_stands_in_paper; exact ⟨v, p, a, r, rfl, h1, h2, h3, q⟩
theorem ok_stands_in_paper {f : Addr} {fd : FuncData} (F : Fun K "stands_in_paper" "stands_in_paper" s_stands_in_paper f fd) (N : Nm mg) (D_flow_stands : Def P w K mg base CX0 1 "flow_stands" ["ahead", "row"] sp_flow_stands) (D_number_stands : Def P w K mg base CX0 1 "number_stands" ["ahead", "row"] sp_number_stands) : FnOk P w K mg base CX0 2 f fd ["ahead", "row"] sp_stands_in_paper := by
  refine F.ok sc_stands_in_paper (fun vs H Q E h => by unfold sp_stands_in_paper at h; obtain ⟨_, _, _, _, rfl, _⟩ := h; rfl) (fun cdv A outer s H vs Q E hr h => ?_)
  unfold sp_stands_in_paper at h
  obtain ⟨v, p, a, r, rfl, h1, h2, h3, q⟩ := h
  have hu := hu40 hr
  refine ⟨_, (pss_cons (psIf (ptC (oEqXK (K := K) rfl (by exact hu)) (peIxK (K := K) rfl (pq 1) pe_int) pe_str) (pss_one (ps_ret (pD D_flow_stands hr pass0 (pa_cons (pq 0) (pa_cons (pq 1) pa_nil))))) pss_nil)
      (pss_one (ps_ret (peAnd (peC (oEqXK (K := K) rfl (by exact hu)) (peIxK (K := K) rfl (pq 1) pe_int) pe_str) (pe_one (pD D_number_stands hr pass0 (pa_cons (pq 0) (pa_cons (pq 1) pa_nil)))))))), ?_⟩
  refine ixT_rd (v := .str r.1) h2 (atI_nat (j := 0) rfl) ?_
  refine br_dec (fun hb => ?_) (fun hb => ?_)
  · unfold spB at q
    simp only [if_pos hb] at q
    refine flow_stands_rd h1 h2 (h3.rg (.inl hb)) (fun H1 s1 => ?_)
    walk_at "wh"
    exact q H1 s1
  · unfold spB at q
    simp only [if_neg hb] at q
    refine ixT_rd (v := .str r.1) h2 (atI_nat (j := 0) rfl) ?_
    walk_at "wh"
    by_cases hn : r.1 = "number"
    · rw [decide_eq_true hn] at q ⊢
      refine br_T ?_
      refine number_stands_rd h1 h2 (h3.rg (.inr hn)) (fun H1 s1 => ?_)
      walk_at "wh"
      exact q H1 s1
    · rw [decide_eq_false hn] at q ⊢
      refine br_F ?_
      walk_at "wh"
      exact q H (Same.refl _)
-- @@split
/-! ### rows of any text -/
def goP (st : Option Rw → Rw → Bool) : List Str → List Rw → Nat ⊕ List Rw
  | [], acc => .inr acc
  | x :: xs, acc => match rowP x with
    | some r => if st acc.getLast? r = true then goP st xs (acc ++ [r]) else .inl acc.length
    | none => .inl acc.length
theorem goP_cons (st : Option Rw → Rw → Bool) (x : Str) (xs : List Str) (acc : List Rw) : goP st (x :: xs) acc = match rowP x with
    | some r => if st acc.getLast? r = true then goP st xs (acc ++ [r]) else .inl acc.length
    | none => .inl acc.length := rfl
def linesS (x : Str) : List Str := Txt.split x "\n"
def rowsP (st : Option Rw → Rw → Bool) (x : Str) : Nat ⊕ List Rw := match goP st (linesS x).dropLast [] with
  | .inl k => .inl k
  | .inr rs => if (linesS x).getLastD ⟨#[]⟩ = ⟨#[]⟩ then .inr rs else .inl rs.length
theorem lines_snoc (x : Str) : ∃ ys y, linesS x = ys ++ [y] := by
  have := PyProof.Rows.split_pos x "\n"
  have hn : linesS x ≠ [] := fun e => by unfold linesS at e; rw [e] at this; exact absurd this (by decide)
  exact ⟨(linesS x).dropLast, (linesS x).getLast hn, (List.dropLast_concat_getLast hn).symm⟩
theorem line_short {x w : Str} (h : w ∈ linesS x) : w.length ≤ x.length := PyProof.Rows.part_short h
theorem lines_le (x : Str) : (linesS x).length ≤ x.length + 2 := PyProof.Rows.split_le x "\n"
theorem RwsAt.snoc {H H' : Hp} {l p : Addr} {ps : List Addr} {rs : List Rw} {r : Rw} (R : RwsAt H l ps rs) (c : Chg l H H') (h : H' l = some (.lst (ps.map V.ref ++ [.ref p]))) (hp : RwT H' p r) : RwsAt H' l (ps ++ [p]) (rs ++ [r]) := by
  refine RwsAt.ext (qs := [p]) (us := [r]) (by rw [h]; rfl) R.len rfl (fun i p' r' e1 e2 => ?_) (fun i p' r' e1 e2 => ?_)
  · have := R.row i p' r' e1 e2
    refine c _ _ (fun z => ?_) this
    unfold RwT at this
    rw [z, R.out] at this
    cases this
  · cases i with
    | zero => cases e1; cases e2; exact hp
    | succ i => simp at e1
/-- the rows read until now are good -/
theorem goP_take {st : Option Rw → Rw → Bool} : ∀ {xs : List Str} {acc : List Rw} {i : Nat} {x : Str}, xs[i]? = some x → ∀ {rs : List Rw}, goP st (xs.take i) acc = .inr rs → goP st xs acc = goP st (xs.drop i) rs
  | xs, acc, 0, x, _, rs, h => by
    rw [List.take_zero] at h
    cases h
    rfl
  | [], acc, i + 1, x, e, rs, h => by simp at e
  | y :: xs, acc, i + 1, x, e, rs, h => by
    rw [List.getElem?_cons_succ] at e
    rw [List.take_succ_cons] at h
    rw [List.drop_succ_cons]
    rw [goP_cons] at h
    rw [goP_cons st y]
    cases hr : rowP y with
    | none => rw [hr] at h; cases h
    | some r =>
      rw [hr] at h
      dsimp only at h ⊢
      by_cases hs : st acc.getLast? r = true
      · rw [if_pos hs] at h ⊢
        exact goP_take e h
      · rw [if_neg hs] at h
        cases h
theorem goP_len {st : Option Rw → Rw → Bool} : ∀ {xs : List Str} {acc rs : List Rw}, goP st xs acc = .inr rs → rs.length = acc.length + xs.length
  | [], acc, rs, h => by cases h; rfl
  | y :: xs, acc, rs, h => by
    rw [goP_cons] at h
    cases hr : rowP y with
    | none => rw [hr] at h; cases h
    | some r =>
      rw [hr] at h
      dsimp only at h
      by_cases hs : st acc.getLast? r = true
      · rw [if_pos hs] at h
        have := goP_len h
        rw [List.length_append, List.length_singleton] at this
        rw [List.length_cons]
        omega
      · rw [if_neg hs] at h
        cases h
theorem goP_snoc {st : Option Rw → Rw → Bool} : ∀ {xs : List Str} {acc rs : List Rw} {x : Str} {r : Rw}, goP st xs acc = .inr rs → rowP x = some r → st rs.getLast? r = true → goP st (xs ++ [x]) acc = .inr (rs ++ [r])
  | [], acc, rs, x, r, h, hx, hs => by
    cases h
    show goP st [x] acc = _
    rw [goP_cons, hx]
    dsimp only
    rw [if_pos hs]
    rfl
  | y :: xs, acc, rs, x, r, h, hx, hs => by
    rw [List.cons_append]
    rw [goP_cons] at h
    rw [goP_cons st y]
    cases hr : rowP y with
    | none => rw [hr] at h; cases h
    | some r' =>
      rw [hr] at h
      dsimp only at h ⊢
      by_cases hs' : st acc.getLast? r' = true
      · rw [if_pos hs'] at h ⊢
        exact goP_snoc h hx hs
      · rw [if_neg hs'] at h
        cases h
@[irreducible] noncomputable def sp_read_rows (mg : Str → Option Value) (a_NoText : Addr) : Sp := fun vs H Q E => ∃ (v : V) (x : Str), vs = [.str x, v] ∧ isFn mg "stands_in_paper" v ∧ x.length ≤ 100000 ∧
  (∀ rs, rowsP spB x = .inr rs → ∀ l ps H', H l = none → Same H H' → RwsAt H' l ps rs → Q (.ref l) H') ∧
  (∀ k, rowsP spB x = .inl k → ∀ d H', H d = none → Same H H' → H' d = some (.xd [("row", .int k)]) → E (.ref a_NoText) (some d) H')
theorem read_rows_rd {mg : Str → Option Value} {a_NoText : Addr} {H : Hp} {v : V} {x : Str} {Q : VK} {E : XK} (h : isFn mg "stands_in_paper" v) (hx : x.length ≤ 100000) (q1 : ∀ rs, rowsP spB x = .inr rs → ∀ l ps H', H l = none → Same H H' → RwsAt H' l ps rs → Q (.ref l) H')
    (q2 : ∀ k, rowsP spB x = .inl k → ∀ d H', H d = none → Same H H' → H' d = some (.xd [("row", .int k)]) → E (.ref a_NoText) (some d) H') : sp_read_rows mg a_NoText [.str x, v] H Q E := by unfold sp_read_rows; exact ⟨v, x, rfl, h, hx, q1, q2⟩
theorem spB_rg {a : Option Rw} {r : Rw} (h : RgW r) (e : spB a r = true) : RgR r := by
  unfold spB at e
  by_cases h1 : r.1 = "flow"
  · exact h.rg (.inl h1)
  · rw [if_neg h1, Bool.and_eq_true, decide_eq_true_eq] at e
    exact h.rg (.inr e.1)
theorem AhV.last {H : Hp} {rs : List Rw} {p : Addr} {r : Rw} (h : RwT H p r) (g : RgR r) : AhV H (.ref p) ((rs ++ [r]).getLast?) := by
  rw [List.getLast?_concat]
  exact ⟨p, rfl, h, g⟩
set_option maxHeartbeats 0 in
theorem ok_read_rows {f : Addr} {fd : FuncData} (F : Fun K "read_rows" "read_rows" s_read_rows f fd) (N : Nm mg) (D_read_row : Def P w K mg base CX0 2 "read_row" ["piece"] sp_read_row) (D_stands_in_paper : Def P w K mg base CX0 2 "stands_in_paper" ["ahead", "row"] sp_stands_in_paper) (Z : Cz K mg base a_HostError a_NoBattle a_NoPlan a_NoMix a_NoStream a_NoSide a_NoAlike a_NoNumber a_TooGreat a_NoEven a_NoText a_NoRow a_NoName a_NoPlace i_NoText) : FnOk P w K mg base (CXR P w) 4 f fd ["text", "stands"] (sp_read_rows mg a_NoText) := by
  refine F.okR sc_read_rows (fun vs H Q E h => by unfold sp_read_rows at h; obtain ⟨_, _, rfl, _⟩ := h; rfl) (fun cdv A outer s H vs Q E hr hX h => ?_)
  unfold sp_read_rows at h
  obtain ⟨v, x, rfl, hf, hx, q1, q2⟩ := h
  have hu := hu40 hr
  obtain ⟨xs, y, el⟩ := lines_snoc x
  have ll := lines_le x
  rw [el, List.length_append, List.length_singleton] at ll
  have sh : ∀ w ∈ xs ++ [y], w.length ≤ 1000000 := fun w hw => Nat.le_trans (line_short (by rw [el]; exact hw)) (by walk_at "om")
  have rp : rowsP spB x = match goP spB xs [] with
    | .inl k => .inl k
    | .inr rs => if y = ⟨#[]⟩ then .inr rs else .inl rs.length := by
    unfold rowsP
    rw [el, List.dropLast_concat, List.getLastD_concat]
  rw [rp] at q1 q2
  refine ⟨_, (pss_cons (psS (i := 2) sc_read_rows.nd (peM_split (K := K) rfl (pq 0) (pa_cons pe_str pa_nil)))
      (pss_cons (psS (i := 3) sc_read_rows.nd (peLst pa_nil))
      (pss_cons (psS (i := 4) sc_read_rows.nd pe_non)
      (pss_cons (psFor PassesOwn.leaving rfl (piEnumK (K := K) rfl N.enumerate_ (pa_cons (pe_slice (slZK (K := K) rfl) (pq 2) po_none (poSome (pe_un uNeg pe_int))) pa_nil)) (pgAnyK (K := K) (n := 2) rfl rfl (pgsCons (pg_name (i := 5) sc_read_rows.nd rfl (by first | exact Or.inl rfl | exact Or.inr rfl)) (pgsCons (pg_name (i := 6) sc_read_rows.nd rfl (by first | exact Or.inl rfl | exact Or.inr rfl)) pgsNil))) (pss_cons (psS (i := 7) sc_read_rows.nd (pD D_read_row hr pass0 (pa_cons (pq 6) pa_nil)))
      (pss_cons (psIf (ptW (pwOr (ptC oIsX (pq 7) pe_non) (pw_or1 (pt_not (ptV (pDL (i := 1) D_stands_in_paper hr pass0 (pa_cons (pq 4) (pa_cons (pq 7) pa_nil)))))))) (pss_one (psRaiseO Z.z_NoText Z.g_NoText (ini_NoText Z.fi_NoText Z.z_NoText) (hr.mono (by decide)) rfl hX (pq 5))) pss_nil)
      (pss_cons (ps_expr (peM_append (pq 3) (pa_cons (pq 7) pa_nil)))
      (pss_one (psS (i := 4) sc_read_rows.nd (pq 7)))))))
      (pss_cons (psIf (ptC (oNeXK (K := K) rfl (by exact hu)) (peIxK (K := K) rfl (pq 2) (pe_un uNeg pe_int)) pe_str) (pss_one (psRaiseO Z.z_NoText Z.g_NoText (ini_NoText Z.fi_NoText Z.z_NoText) (hr.mono (by decide)) rfl hX (pB (cLenK (K := K) rfl) N.len_ bt_len (pa_cons (pq 3) pa_nil)))) pss_nil)
      (pss_one (ps_ret (pq 3)))))))), ?_⟩
  refine split_rd (by decide +kernel) (by rw [sizeLine_eq]; omega) (fun pc H1 g1 s1 k1 => ?_)
  rw [show Txt.split x (Str.ofString "\n") = xs ++ [y] from el] at k1
  have k1 : H1 pc = some (.lst (xs.map V.str ++ [.str y])) := by rw [k1, List.map_append]; rfl
  refine newL_rd (fun l H2 g2 s2 k2 => ?_)
  have s02 := s1.trans s2
  have fl : H l = none := s1.free g2
  refine slL_rd (SqL.of (s2 _ _ k1)) (fun pi H3 g3 s3 k3 => ?_)
  rw [cut_init, List.length_append, List.length_map, List.length_singleton, Nat.add_sub_cancel, List.take_left' (by rw [List.length_map])] at k3
  have npl : pi ≠ l := Ne.symm (ne_of_none k2 g3)
  have ncl : pc ≠ l := ne_of_none k1 g2
  refine enum_rd k3 ?_
  refine loop_enum (xs := xs.map V.str) (fun i σ I => ∃ (va : V) (y5 y6 y7 : Option V) (ps : List Addr) (rs : List Rw), σ = [some (.str x), some v, some (.ref pc), some (.ref l), some va, y5, y6, y7] ∧ Same H I ∧ I pc = some (.lst (xs.map V.str ++ [.str y])) ∧ I pi = some (.lst (xs.map V.str)) ∧ goP spB (xs.take i) [] = .inr rs ∧ RwsAt I l ps rs ∧ AhV I va rs.getLast?) ?_ ?_ ?_ ?_
  · exact ⟨_, _, _, _, [], [], rfl, s02.trans s3, (s2.trans s3) _ _ k1, k3, rfl, ⟨s3 _ _ k2, rfl, fun i p r e => by simp at e⟩, rfl⟩
  · rintro i σ I _ ⟨_, _, _, _, _, _, _, _, _, h, _⟩
    exact SqL.of h
  · rintro i yy σ I e I' hy ⟨va, y5, y6, y7, ps, rs, rfl, sI, hpc, hpi, go, R, Ah⟩ fe sE he
    rw [List.getElem?_map] at hy
    obtain ⟨z, ez, rfl⟩ := Option.map_eq_some_iff.mp hy
    have hz := sh z (List.mem_append_left _ (List.mem_of_getElem? ez))
    have hi := (List.getElem?_eq_some_iff.mp ez).1
    have pl := R.len
    have rl := goP_len go
    rw [List.length_take, List.length_nil] at rl
    have gd : goP spB xs [] = match rowP z with
      | some r => if spB rs.getLast? r = true then goP spB (xs.drop (i + 1)) (rs ++ [r]) else .inl i
      | none => .inl i := by
      rw [goP_take ez go, List.drop_eq_getElem_cons hi, (List.getElem?_eq_some_iff.mp ez).2]
      rw [goP_cons, show rs.length = i by walk_at "om"]
    have bad : goP spB xs [] = .inl i → ∀ J d J', Same H J → J d = none → Same J J' → J' d = some (.xd [("row", .int i)]) → E (.ref a_NoText) (some d) J' := fun eb J d J' sJ fd sJ' hd => by
      rw [eb] at q2
      exact q2 i rfl d J' (sJ.free fd) (sJ.trans sJ') hd
    refine unpT_rd he ?_
    refine read_row_rd hz (fun hn J1 t1 => ?_) (fun r hr' p J1 f1 t1 h1 => ?_)
    · rw [hn] at gd
      walk_at "wh"
      first | refine br_T ?_ | refine br_dT rfl ?_
      walk_at "wh"
      first | refine br_T ?_ | skip
      walk_at "wh"
      exact raiseI_rd (fun d J' fd sJ' hd => bad gd J1 d J' ((sI.trans sE).trans t1) fd sJ' hd)
    have rw' : RgW r := rowP_w hr'
    rw [hr'] at gd
    dsimp only at gd
    have sJ := sE.trans t1
    walk_at "wh"
    first | refine br_F ?_ | refine br_dF (fun z => by cases z) ?_
    walk_at "wh"
    refine ⟨hf, ?_⟩
    refine stands_rd (Ah.same sJ) h1 rw' (fun J2 t2 => ?_)
    have sJ2 := sJ.trans t2
    cases hs : spB rs.getLast? r
    · rw [hs, if_neg Bool.false_ne_true] at gd
      walk_at "wh"
      first | refine br_not (br_F ?_) | refine br_T ?_
      walk_at "wh"
      exact raiseI_rd (fun d J' fd sJ' hd => bad gd J2 d J' (sI.trans sJ2) fd sJ' hd)
    have nlp : p ≠ l := Ne.symm (ne_of_none (sE _ _ R.out) f1)
    walk_at "wh"
    first | refine br_not (br_T ?_) | refine br_F ?_
    refine lst_is (sJ2 _ _ R.out) ?_
    refine app_rd (sJ2 _ _ R.out) (by rw [List.length_map, sizeLine_eq]; omega) (fun J3 c3 k4 => ?_)
    have hp3 : RwT J3 p r := c3 _ _ nlp (t2 _ _ h1)
    walk_at "wh"
    refine ⟨.ref p, _, _, _, ps ++ [p], rs ++ [r], rfl, fun b o z => c3 _ _ (ne_of_none z fl) ((sI.trans sJ2) _ _ z), c3 _ _ ncl (sJ2 _ _ hpc), c3 _ _ npl (sJ2 _ _ hpi), ?_, (R.same sJ2).snoc c3 k4 hp3, AhV.last hp3 (spB_rg rw' hs)⟩
    rw [List.take_succ, ez]
    exact goP_snoc go hr' hs
  · rintro σ I ⟨va, y5, y6, y7, ps, rs, rfl, sI, hpc, hpi, go, R, Ah⟩
    rw [List.length_map, List.take_length] at go
    rw [go] at q1 q2
    have rl := R.len
    refine ixL_rd (v := .str y) hpc (at_last (n := xs.length) (by rw [List.length_append, List.length_map]; rfl) (by rw [List.getElem?_append_right (by rw [List.length_map]; omega), List.length_map, Nat.sub_self]; rfl)) ?_
    walk_at "wh"
    by_cases hy : y = ⟨#[]⟩
    · have q1 := q1 rs (by show (if y = ⟨#[]⟩ then _ else _) = _; rw [if_pos hy])
      rw [show decide (y = Str.ofString "") = true from decide_eq_true (hy.trans (by decide +kernel))]
      first | refine br_not (br_T ?_) | refine br_F ?_
      walk_at "wh"
      exact q1 l ps I fl sI R
    · have q2 := q2 rs.length (by show (if y = ⟨#[]⟩ then _ else _) = _; rw [if_neg hy])
      rw [show decide (y = Str.ofString "") = false from decide_eq_false (fun z => hy (z.trans (by decide +kernel)))]
      first | refine br_not (br_F ?_) | refine br_T ?_
      refine lenL_rd R.out ?_
      rw [List.length_map, rl]
      walk_at "wh"
      exact raiseI_rd (fun d J' fd sJ' hd => q2 d J' (sI.free fd) (sI.trans sJ') hd)
-- @@split
/-! ### what the rows of a paper come to -/
abbrev St2 : Type := List (List F3) × List (List Int)
def rowsS (s : St2) : List Rw := flowsR 0 s.1 ++ numsR 0 s.2
def GdS (s : St2) : Prop := (∀ xs ∈ s.1, xs ≠ []) ∧ ∀ ns ∈ s.2, ns ≠ []
def snocL {α : Type} (xss : List (List α)) (k : Int) (z : α) : List (List α) := if k = xss.length then xss ++ [[z]] else xss.dropLast ++ [xss.getLastD [] ++ [z]]
def pushS (s : St2) (r : Rw) : St2 := if r.1 = "flow" then (snocL s.1 (r.2.getD 0 0) (r.2.getD 1 0, r.2.getD 2 0, r.2.getD 3 0), s.2) else (s.1, snocL s.2 (r.2.getD 0 0) (r.2.getD 2 0))
def lastN (s : St2) : Nat := (s.2.getLastD []).length
def okS (s : St2) (r : Rw) : Bool := if r.1 = "flow" then decide (s.2 = [] ∧ 0 ≤ r.2.getD 0 0 ∧ (r.2.getD 0 0 = (s.1.length : Int) - 1 ∨ r.2.getD 0 0 = s.1.length))
  else decide (r.1 = "number" ∧ 0 ≤ r.2.getD 0 0 ∧ ((r.2.getD 0 0 = s.2.length ∧ r.2.getD 1 0 = 0) ∨ (r.2.getD 0 0 = (s.2.length : Int) - 1 ∧ r.2.getD 1 0 = lastN s)))
theorem numR_snoc (k : Nat) (n : Int) : ∀ (c : Nat) (ns : List Int), numR k c (ns ++ [n]) = numR k c ns ++ [nuR k (c + ns.length) n]
  | c, [] => rfl
  | c, m :: r => by
    show nuR k c m :: numR k (c + 1) (r ++ [n]) = nuR k c m :: (numR k (c + 1) r ++ [_])
    rw [numR_snoc k n (c + 1) r, List.length_cons, show c + 1 + r.length = c + (r.length + 1) by walk_at "om"]
theorem snoc_of {α : Type} {xs : List α} (h : xs ≠ []) : ∃ ys y, xs = ys ++ [y] := ⟨xs.dropLast, xs.getLast h, (List.dropLast_concat_getLast h).symm⟩
theorem last_num {s : St2} (G : GdS s) (h : s.2 ≠ []) : ∃ n, (rowsS s).getLast? = some (nuR (s.2.length - 1) (lastN s - 1) n) ∧ 1 ≤ lastN s := by
  obtain ⟨as, ns, e⟩ := snoc_of h
  obtain ⟨ms, n, e2⟩ := snoc_of (G.2 ns (by rw [e]; simp))
  refine ⟨n, ?_, ?_⟩
  · unfold rowsS lastN
    rw [e, e2, numsR_snoc, numR_snoc, List.getLastD_concat, List.length_append, List.length_append, ← List.append_assoc, ← List.append_assoc, List.getLast?_concat]
    simp
  · unfold lastN
    rw [e, e2, List.getLastD_concat, List.length_append]
    simp
theorem last_flow {s : St2} (G : GdS s) (h2 : s.2 = []) (h : s.1 ≠ []) : ∃ z, (rowsS s).getLast? = some (flR (s.1.length - 1) z) := by
  obtain ⟨as, xs, e⟩ := snoc_of h
  obtain ⟨ms, z, e2⟩ := snoc_of (G.1 xs (by rw [e]; simp))
  refine ⟨z, ?_⟩
  unfold rowsS
  rw [h2, e, e2, flowsR_snoc, List.map_append]
  show (flowsR 0 as ++ (_ ++ [flR (0 + as.length) z]) ++ []).getLast? = _
  rw [List.append_nil, ← List.append_assoc, List.getLast?_concat]
  simp
theorem last_none {s : St2} (h1 : s.1 = []) (h2 : s.2 = []) : (rowsS s).getLast? = none := by
  unfold rowsS
  rw [h1, h2]
  rfl
theorem ne_fn : ¬ ("number" : Str) = "flow" := by decide +kernel
theorem spB_ok {s : St2} (G : GdS s) (r : Rw) : spB (rowsS s).getLast? r = okS s r := by
  unfold spB okS
  by_cases hf : r.1 = "flow"
  · rw [if_pos hf, if_pos hf]
    by_cases h2 : s.2 = []
    · by_cases h1 : s.1 = []
      · rw [last_none h1 h2]
        show decide (r.2.getD 0 0 = 0) = _
        rw [decide_eq_decide, h1]
        simp only [h2, List.length_nil, true_and]
        omega
      · obtain ⟨z, e⟩ := last_flow G h2 h1
        have l1 : 1 ≤ s.1.length := List.length_pos_iff.mpr h1
        rw [e]
        show (decide (("flow" : Str) = "flow") && (decide (r.2.getD 0 0 - ((s.1.length - 1 : Nat) : Int) = 0) || decide (r.2.getD 0 0 - ((s.1.length - 1 : Nat) : Int) = 1))) = _
        rw [decide_eq_true rfl, Bool.true_and, ← Bool.decide_or, decide_eq_decide]
        simp only [h2, true_and]
        omega
    · obtain ⟨n, e, _⟩ := last_num G h2
      rw [e]
      rw [decide_eq_false (fun z => h2 z.1)]
      show (decide (("number" : Str) = "flow") && (decide (r.2.getD 0 0 - ((s.2.length - 1 : Nat) : Int) = 0) || decide (r.2.getD 0 0 - ((s.2.length - 1 : Nat) : Int) = 1))) = false
      rw [decide_eq_false ne_fn]
      rfl
  · rw [if_neg hf, if_neg hf]
    by_cases hn : r.1 = "number"
    · rw [decide_eq_true hn, Bool.true_and]
      by_cases h2 : s.2 = []
      · have e : nsB (rowsS s).getLast? r = decide (r.2.getD 0 0 = 0 ∧ r.2.getD 1 0 = 0) := by
          by_cases h1 : s.1 = []
          · rw [last_none h1 h2]; rfl
          · obtain ⟨z, e⟩ := last_flow G h2 h1
            rw [e]
            show (if ("flow" : Str) = "flow" then decide (r.2.getD 0 0 = 0 ∧ r.2.getD 1 0 = 0) else (decide (r.2.getD 0 0 = ((s.1.length - 1 : Nat) : Int) ∧ r.2.getD 1 0 = z.1 + 1) || decide (r.2.getD 0 0 = ((s.1.length - 1 : Nat) : Int) + 1 ∧ r.2.getD 1 0 = 0))) = _
            rw [if_pos rfl]
        rw [e, decide_eq_decide]
        simp only [h2, hn, List.length_nil, true_and]
        omega
      · obtain ⟨n, e, ln⟩ := last_num G h2
        have l2 : 1 ≤ s.2.length := List.length_pos_iff.mpr h2
        rw [e]
        show (if ("number" : Str) = "flow" then decide (r.2.getD 0 0 = 0 ∧ r.2.getD 1 0 = 0) else (decide (r.2.getD 0 0 = ((s.2.length - 1 : Nat) : Int) ∧ r.2.getD 1 0 = ((lastN s - 1 : Nat) : Int) + 1) || decide (r.2.getD 0 0 = ((s.2.length - 1 : Nat) : Int) + 1 ∧ r.2.getD 1 0 = 0))) = _
        rw [if_neg ne_fn, ← Bool.decide_or, decide_eq_decide]
        simp only [hn, true_and]
        omega
    · rw [decide_eq_false hn, Bool.false_and, decide_eq_false (fun z => hn z.1)]
theorem rg_flow {r : Rw} (h : RgR r) (e : r.1 = "flow") : r = (("flow" : Str), [r.2.getD 0 0, r.2.getD 1 0, r.2.getD 2 0, r.2.getD 3 0]) := by
  rcases h with ⟨_, h⟩ | ⟨h, _⟩
  · obtain ⟨w, zs⟩ := r
    match zs, h with
    | [a, b, c, d], _ => rw [show w = "flow" from e]; rfl
  · rw [e] at h; exact absurd h.symm ne_fn
theorem rg_num {r : Rw} (h : RgR r) (e : ¬ r.1 = "flow") : r = (("number" : Str), [r.2.getD 0 0, r.2.getD 1 0, r.2.getD 2 0]) := by
  rcases h with ⟨h, _⟩ | ⟨h1, h⟩
  · exact absurd h e
  · obtain ⟨w, zs⟩ := r
    match zs, h with
    | [a, b, c], _ => rw [show w = "number" from h1]; rfl
theorem push_rows {s : St2} {r : Rw} (G : GdS s) (h : RgR r) (ok : spB (rowsS s).getLast? r = true) : rowsS (pushS s r) = rowsS s ++ [r] ∧ GdS (pushS s r) := by
  rw [spB_ok G] at ok
  unfold okS at ok
  by_cases hf : r.1 = "flow"
  · rw [if_pos hf, decide_eq_true_eq] at ok
    obtain ⟨h2, k0, hk⟩ := ok
    have er := rg_flow h hf
    generalize ek : r.2.getD 0 0 = k at er k0 hk
    have ps : pushS s r = (snocL s.1 k (r.2.getD 1 0, r.2.getD 2 0, r.2.getD 3 0), s.2) := by unfold pushS; rw [if_pos hf, ek]
    rw [ps]
    generalize r.2.getD 1 0 = a at er ⊢
    generalize r.2.getD 2 0 = b at er ⊢
    generalize r.2.getD 3 0 = c at er ⊢
    obtain ⟨xss, nss⟩ := s
    have h2 : nss = [] := h2
    subst h2
    have hk : k = (xss.length : Int) - 1 ∨ k = xss.length := hk
    by_cases e : k = xss.length
    · have es : snocL xss k (a, b, c) = xss ++ [[(a, b, c)]] := by unfold snocL; rw [if_pos e]
      refine ⟨?_, ?_, G.2⟩
      · show flowsR 0 (snocL xss k (a, b, c)) ++ [] = flowsR 0 xss ++ [] ++ [r]
        rw [es, flowsR_snoc, er, List.append_nil, List.append_nil, e, Nat.zero_add]
        rfl
      · show ∀ xs ∈ snocL xss k (a, b, c), xs ≠ []
        rw [es]
        intro xs hx
        rcases List.mem_append.mp hx with hx | hx
        · exact G.1 xs hx
        · rw [List.mem_singleton.mp hx]; simp
    · have e1 : k = (xss.length : Int) - 1 := by walk_at "om"
      have hx : xss ≠ [] := fun z => by rw [z, List.length_nil] at e1; omega
      obtain ⟨as, ys, rfl⟩ := snoc_of hx
      have es : snocL (as ++ [ys]) k (a, b, c) = as ++ [ys ++ [(a, b, c)]] := by
        unfold snocL
        rw [if_neg e, List.dropLast_concat, List.getLastD_concat]
      rw [List.length_append, List.length_singleton] at e1
      refine ⟨?_, ?_, G.2⟩
      · show flowsR 0 (snocL (as ++ [ys]) k (a, b, c)) ++ [] = flowsR 0 (as ++ [ys]) ++ [] ++ [r]
        rw [es, flowsR_snoc, flowsR_snoc, er, List.append_nil, List.append_nil, List.map_append, List.append_assoc, show k = (as.length : Int) by walk_at "om", Nat.zero_add]
        rfl
      · show ∀ xs ∈ snocL (as ++ [ys]) k (a, b, c), xs ≠ []
        rw [es]
        intro xs hx
        rcases List.mem_append.mp hx with hx | hx
        · exact G.1 xs (List.mem_append_left _ hx)
        · rw [List.mem_singleton.mp hx]; simp
  · rw [if_neg hf, decide_eq_true_eq] at ok
    obtain ⟨hn, k0, hk⟩ := ok
    have er := rg_num h hf
    generalize ek : r.2.getD 0 0 = k at er k0 hk
    have ps : pushS s r = (s.1, snocL s.2 k (r.2.getD 2 0)) := by unfold pushS; rw [if_neg hf, ek]
    rw [ps]
    generalize ed : r.2.getD 1 0 = d at er hk
    generalize r.2.getD 2 0 = n at er ⊢
    obtain ⟨xss, nss⟩ := s
    have hk : (k = nss.length ∧ d = 0) ∨ (k = (nss.length : Int) - 1 ∧ d = ((nss.getLastD []).length : Nat)) := hk
    by_cases e : k = nss.length
    · have d0 : d = 0 := by walk_at "om"
      have es : snocL nss k n = nss ++ [[n]] := by unfold snocL; rw [if_pos e]
      refine ⟨?_, G.1, ?_⟩
      · show flowsR 0 xss ++ numsR 0 (snocL nss k n) = flowsR 0 xss ++ numsR 0 nss ++ [r]
        rw [es, numsR_snoc, er, ← List.append_assoc, e, d0, Nat.zero_add]
        rfl
      · show ∀ xs ∈ snocL nss k n, xs ≠ []
        rw [es]
        intro xs hx
        rcases List.mem_append.mp hx with hx | hx
        · exact G.2 xs hx
        · rw [List.mem_singleton.mp hx]; simp
    · have e1 : k = (nss.length : Int) - 1 ∧ d = ((nss.getLastD []).length : Nat) := by rcases hk with z | z; exact absurd z.1 e; exact z
      have hx : nss ≠ [] := fun z => by rw [z, List.length_nil] at e1; omega
      obtain ⟨as, ys, rfl⟩ := snoc_of hx
      rw [List.getLastD_concat, List.length_append, List.length_singleton] at e1
      have es : snocL (as ++ [ys]) k n = as ++ [ys ++ [n]] := by
        unfold snocL
        rw [if_neg e, List.dropLast_concat, List.getLastD_concat]
      refine ⟨?_, G.1, ?_⟩
      · show flowsR 0 xss ++ numsR 0 (snocL (as ++ [ys]) k n) = flowsR 0 xss ++ numsR 0 (as ++ [ys]) ++ [r]
        rw [es, numsR_snoc, numsR_snoc, numR_snoc, er, List.append_assoc, List.append_assoc, show k = (as.length : Int) by walk_at "om", e1.2]
        rw [Nat.zero_add, Nat.zero_add]
        rfl
      · show ∀ xs ∈ snocL (as ++ [ys]) k n, xs ≠ []
        rw [es]
        intro xs hx
        rcases List.mem_append.mp hx with hx | hx
        · exact G.2 xs (List.mem_append_left _ hx)
        · rw [List.mem_singleton.mp hx]; simp
def stOf (rs : List Rw) : St2 := rs.foldl pushS ([], [])
theorem goP_st : ∀ {xs : List Str} {acc rs : List Rw}, GdS (stOf acc) → rowsS (stOf acc) = acc → goP spB xs acc = .inr rs → GdS (stOf rs) ∧ rowsS (stOf rs) = rs
  | [], acc, rs, h1, h2, h => by cases h; exact ⟨h1, h2⟩
  | x :: xs, acc, rs, h1, h2, h => by
    rw [goP_cons] at h
    cases hr : rowP x with
    | none => rw [hr] at h; cases h
    | some r =>
      rw [hr] at h
      dsimp only at h
      by_cases hs : spB acc.getLast? r = true
      · rw [if_pos hs] at h
        have rw' : RgW r := rowP_w hr
        have hs2 : spB (rowsS (stOf acc)).getLast? r = true := by rw [h2]; exact hs
        obtain ⟨p1, p2⟩ := push_rows h1 (spB_rg rw' hs) hs2
        have e : stOf (acc ++ [r]) = pushS (stOf acc) r := by unfold stOf; rw [List.foldl_append]; rfl
        exact goP_st (by rw [e]; exact p2) (by rw [e, p1, h2]) h
      · rw [if_neg hs] at h
        cases h
theorem goP_st0 {xs : List Str} {rs : List Rw} (h : goP spB xs [] = .inr rs) : GdS (stOf rs) ∧ rowsS (stOf rs) = rs := goP_st (acc := []) ⟨(fun _ h => absurd h List.not_mem_nil), (fun _ h => absurd h List.not_mem_nil)⟩ rfl h
/-- what a text of a paper comes to -/
def resP (x : Str) : Nat ⊕ St2 := match rowsP spB x with
  | .inl k => .inl k
  | .inr rs => if (stOf rs).1.isEmpty || (stOf rs).2.isEmpty then .inl rs.length else .inr (stOf rs)
-- @@split
/-! ### things put by their fields -/
def stepB (acc : List (List V)) (x : Nat × V) : List (List V) := (if x.1 = acc.length then acc ++ [[]] else acc).set x.1 ((if x.1 = acc.length then acc ++ [[]] else acc).getD x.1 [] ++ [x.2])
/-- lists in a new list, none at two places -/
structure LsN (H0 H : Hp) (L : Addr) (qs : List Addr) (acc : List (List V)) : Prop where
  fr : H0 L = none
  out : H L = some (.lst (qs.map V.ref))
  len : qs.length = acc.length
  nd : (L :: qs).Nodup
  row : ∀ (i : Nat) q xs, qs[i]? = some q → acc[i]? = some xs → H0 q = none ∧ H q = some (.lst xs)
theorem LsN.same {H0 H H' : Hp} {L : Addr} {qs : List Addr} {acc : List (List V)} (R : LsN H0 H L qs acc) (s : Same H H') : LsN H0 H' L qs acc := ⟨R.fr, s _ _ R.out, R.len, R.nd, fun i q xs e1 e2 => ⟨(R.row i q xs e1 e2).1, s _ _ (R.row i q xs e1 e2).2⟩⟩
theorem stepB_len (acc : List (List V)) (x : Nat × V) : (stepB acc x).length = if x.1 = acc.length then acc.length + 1 else acc.length := by
  unfold stepB
  rw [List.length_set]
  split
  · rw [List.length_append]; rfl
  · rfl
theorem midB_mem {acc : List (List V)} {k m : Nat} (h : ∀ ys ∈ acc, ys.length ≤ m) : ∀ ys ∈ (if k = acc.length then acc ++ [[]] else acc), ys.length ≤ m := fun ys hy => by
  split at hy
  · rcases List.mem_append.mp hy with hy | hy
    · exact h ys hy
    · rw [List.mem_singleton.mp hy]; exact Nat.zero_le _
  · exact h ys hy
theorem stepB_mem {acc : List (List V)} {x : Nat × V} {m : Nat} (h : ∀ ys ∈ acc, ys.length ≤ m) : ∀ ys ∈ stepB acc x, ys.length ≤ m + 1 := fun ys hy => by
  unfold stepB at hy
  have hm := midB_mem (k := x.1) h
  rcases List.mem_or_eq_of_mem_set hy with hy | rfl
  · have := hm ys hy; omega
  · rw [List.length_append, List.length_singleton, List.getD_eq_getElem?_getD]
    cases e : (if x.1 = acc.length then acc ++ [[]] else acc)[x.1]? with
    | none => show 0 + 1 ≤ m + 1; omega
    | some z => have := hm z (List.mem_of_getElem? e); show z.length + 1 ≤ m + 1; omega
@[irreducible] noncomputable def sp_by_fields : Sp := fun vs H Q _ => ∃ (l : Addr) (ts : List Addr) (sq : List (Nat × V)), vs = [.ref l] ∧ H l = some (.lst (ts.map V.ref)) ∧ ts.length = sq.length ∧ (∀ (i : Nat) t x, ts[i]? = some t → sq[i]? = some x → H t = some (.tup [.int x.1, x.2])) ∧ sq.length ≤ 200000 ∧ (∀ (i : Nat) x, sq[i]? = some x → x.1 ≤ ((sq.take i).foldl stepB []).length) ∧ ∀ L qs H', Same H H' → LsN H H' L qs (sq.foldl stepB []) → Q (.ref L) H'
theorem by_fields_rd {H : Hp} {l : Addr} {ts : List Addr} {sq : List (Nat × V)} {Q : VK} {E : XK} (h : H l = some (.lst (ts.map V.ref))) (hl : ts.length = sq.length) (ht : ∀ (i : Nat) t x, ts[i]? = some t → sq[i]? = some x → H t = some (.tup [.int x.1, x.2])) (h1 : sq.length ≤ 200000) (h2 : ∀ (i : Nat) x, sq[i]? = some x → x.1 ≤ ((sq.take i).foldl stepB []).length) (q : ∀ L qs H', Same H H' → LsN H H' L qs (sq.foldl stepB []) → Q (.ref L) H') : sp_by_fields [.ref l] H Q E := by unfold sp_by_fields; exact ⟨l, ts, sq, rfl, h, hl, ht, h1, h2, q⟩
theorem LsN.put {H0 H H' : Hp} {L q : Addr} {qs : List Addr} {acc : List (List V)} {k : Nat} {ys : List V} (R : LsN H0 H L qs acc) (e : qs[k]? = some q) (c : Chg q H H') (h : H' q = some (.lst ys)) : LsN H0 H' L qs (acc.set k ys) := by
  have hk := (List.getElem?_eq_some_iff.mp e).1
  have nd := R.nd
  rw [List.nodup_cons] at nd
  refine ⟨R.fr, c _ _ (fun z => nd.1 (by rw [z]; exact List.mem_of_getElem? e)) R.out, by rw [List.length_set]; exact R.len, R.nd, fun i q' xs e1 e2 => ?_⟩
  by_cases hi : i = k
  · subst hi
    rw [e] at e1
    cases e1
    rw [List.getElem?_set_self (by have := R.len; omega)] at e2
    cases e2
    obtain ⟨z, ez⟩ : ∃ z, acc[i]? = some z := ⟨_, List.getElem?_eq_getElem (by have := R.len; omega)⟩
    exact ⟨(R.row i q z e ez).1, h⟩
  · rw [List.getElem?_set_ne (fun z => hi z.symm)] at e2
    obtain ⟨r1, r2⟩ := R.row i q' xs e1 e2
    refine ⟨r1, c _ _ (fun z => hi ?_) r2⟩
    subst z
    exact (List.getElem?_inj (List.getElem?_eq_some_iff.mp e1).1 nd.2).mp (e1.trans e.symm)
theorem LsN.snoc {H0 H1 H H' : Hp} {L q : Addr} {qs : List Addr} {acc : List (List V)} (R : LsN H0 H1 L qs acc) (s0 : Same H0 H1) (g : H1 q = none) (s : Same H1 H) (hq : H q = some (.lst [])) (c : Chg L H H') (h : H' L = some (.lst (qs.map V.ref ++ [.ref q]))) : LsN H0 H' L (qs ++ [q]) (acc ++ [[]]) := by
  have nd := R.nd
  rw [List.nodup_cons] at nd
  have nql : q ≠ L := Ne.symm (ne_of_none R.out g)
  have old : ∀ x ∈ qs, x ≠ q := fun x hx z => by
    obtain ⟨i, ei⟩ := List.getElem?_of_mem hx
    obtain ⟨ys, ey⟩ : ∃ z, acc[i]? = some z := ⟨_, List.getElem?_eq_getElem (by have := R.len; have := (List.getElem?_eq_some_iff.mp ei).1; omega)⟩
    have := (R.row i x ys ei ey).2
    rw [z, g] at this
    cases this
  refine ⟨R.fr, by rw [h, List.map_append]; rfl, by rw [List.length_append, List.length_append, R.len]; rfl, ?_, fun i q' xs e1 e2 => ?_⟩
  · rw [List.nodup_cons, List.mem_append, List.nodup_append]
    refine ⟨fun z => ?_, nd.2, by simp, fun a ha b hb => ?_⟩
    · rcases z with z | z
      · exact nd.1 z
      · exact nql (List.mem_singleton.mp z).symm
    · rw [List.mem_singleton.mp hb]; exact old a ha
  · by_cases hi : i < qs.length
    · rw [List.getElem?_append_left hi] at e1
      rw [List.getElem?_append_left (by have := R.len; omega)] at e2
      obtain ⟨r1, r2⟩ := R.row i q' xs e1 e2
      exact ⟨r1, c _ _ (fun z => nd.1 (by rw [← z]; exact List.mem_of_getElem? e1)) (s _ _ r2)⟩
    · rw [List.getElem?_append_right (by walk_at "om")] at e1
      rw [List.getElem?_append_right (by have := R.len; omega), ← R.len] at e2
      have i0 : i - qs.length = 0 := by have := (List.getElem?_eq_some_iff.mp e1).1; simp at this; omega
      rw [i0] at e1 e2
      cases e1
      cases e2
      exact ⟨s0.free g, c _ _ nql hq⟩
set_option maxHeartbeats 0 in
theorem ok_by_fields {f : Addr} {fd : FuncData} (F : Fun K "by_fields" "by_fields" s_by_fields f fd) (N : Nm mg) : FnOk P w K mg base CX0 1 f fd ["pairs"] sp_by_fields := by
  refine F.ok sc_by_fields (fun vs H Q E h => by unfold sp_by_fields at h; obtain ⟨_, _, _, rfl, _⟩ := h; rfl) (fun cdv A outer s H vs Q E hr h => ?_)
  unfold sp_by_fields at h
  obtain ⟨l, ts, sq, rfl, hl0, tl, ht, sl, hk, q⟩ := h
  have hu := hu40 hr
  refine ⟨_, (pss_cons (psS (i := 1) sc_by_fields.nd (peLst pa_nil))
      (pss_cons (psFor PassesOwn.never rfl (piSeqK (K := K) rfl (pq 0)) (pgAnyK (K := K) (n := 2) rfl rfl (pgsCons (pg_name (i := 2) sc_by_fields.nd rfl (by first | exact Or.inl rfl | exact Or.inr rfl)) (pgsCons (pg_name (i := 3) sc_by_fields.nd rfl (by first | exact Or.inl rfl | exact Or.inr rfl)) pgsNil))) (pss_cons (psCut (psIf (ptC (oEqXK (K := K) rfl (by exact hu)) (pq 2) (pB (cLenK (K := K) rfl) N.len_ bt_len (pa_cons (pq 1) pa_nil))) (pss_one (ps_expr (peM_append (pq 1) (pa_cons (peLst pa_nil) pa_nil)))) pss_nil))
      (pss_one (ps_expr (peM_append (peIxK (K := K) rfl (pq 1) (pq 2)) (pa_cons (pq 3) pa_nil))))))
      (pss_one (ps_ret (pq 1))))), ?_⟩
  refine newL_rd (fun L H1 g1 s1 k1 => ?_)
  have nlL : l ≠ L := ne_of_none hl0 g1
  refine iterL_rd (s1 _ _ hl0) ?_
  refine loop_list (xs := ts.map V.ref) (fun i σ I => ∃ (y2 y3 : Option V) (qs : List Addr), σ = [some (.ref l), some (.ref L), y2, y3] ∧ Same H I ∧ LsN H I L qs ((sq.take i).foldl stepB []) ∧ ((sq.take i).foldl stepB []).length ≤ i ∧ ∀ ys ∈ (sq.take i).foldl stepB [], ys.length ≤ i) ?_ ?_ ?_ ?_
  · exact ⟨_, _, [], rfl, s1, ⟨g1, k1, rfl, by simp, fun i q xs e => by simp at e⟩, Nat.le_refl _, fun ys hy => by cases hy⟩
  · rintro i σ I _ ⟨_, _, _, _, sI, _⟩
    exact SqL.of (sI _ _ hl0)
  · rintro i y σ I hy ⟨y2, y3, qs, rfl, sI, R, al, am⟩
    rw [List.getElem?_map] at hy
    obtain ⟨t, et, rfl⟩ := Option.map_eq_some_iff.mp hy
    have hi := (List.getElem?_eq_some_iff.mp et).1
    obtain ⟨x, ex⟩ : ∃ x, sq[i]? = some x := ⟨_, List.getElem?_eq_getElem (by walk_at "om")⟩
    have kx := hk i x ex
    have ql := R.len
    have sl2 := stepB_len ((sq.take i).foldl stepB []) x
    have fo : ((sq.take (i + 1)).foldl stepB []) = stepB ((sq.take i).foldl stepB []) x := by rw [List.take_succ, ex, List.foldl_append]; rfl
    rw [fo]
    generalize (sq.take i).foldl stepB [] = acc at R al am kx ql sl2 ⊢
    refine unpT_rd (sI _ _ (ht i t x et ex)) ?_
    refine cut_rd (fun σ J => ∃ qs', σ = [some (.ref l), some (.ref L), some (.int x.1), some x.2] ∧ Same H J ∧ LsN H J L qs' (if x.1 = acc.length then acc ++ [[]] else acc)) ?_ ?_
    · walk_at "wh"
      refine lenL_rd R.out ?_
      rw [List.length_map, ql]
      refine br_dec (fun hx => ?_) (fun hx => ?_)
      · walk_at "wh"
        refine lst_is R.out ?_
        refine newL_rd (fun q0 J1 f1 t1 h1 => ?_)
        refine app_rd (t1 _ _ R.out) (by rw [List.length_map, sizeLine_eq]; omega) (fun J2 c2 h2 => ?_)
        walk_at "wh"
        refine ⟨qs ++ [q0], rfl, fun b o z => c2 _ _ (ne_of_none z R.fr) ((sI.trans t1) _ _ z), ?_⟩
        rw [if_pos (by walk_at "om")]
        exact R.snoc sI f1 t1 h1 c2 h2
      · walk_at "wh"
        refine ⟨qs, rfl, sI, ?_⟩
        rw [if_neg (by walk_at "om")]
        exact R
    rintro σ J ⟨qs', rfl, sJ, R'⟩
    have ql' := R'.len
    have kl : x.1 < (if x.1 = acc.length then acc ++ [[]] else acc).length := by
      split
      · rw [List.length_append, List.length_singleton]; omega
      · omega
    obtain ⟨q0, eq0⟩ : ∃ q0, qs'[x.1]? = some q0 := ⟨_, List.getElem?_eq_getElem (by walk_at "om")⟩
    obtain ⟨xs, exs⟩ : ∃ z, (if x.1 = acc.length then acc ++ [[]] else acc)[x.1]? = some z := ⟨_, List.getElem?_eq_getElem kl⟩
    obtain ⟨fq, hq0⟩ := R'.row x.1 q0 xs eq0 exs
    have gd : (if x.1 = acc.length then acc ++ [[]] else acc).getD x.1 [] = xs := by rw [List.getD_eq_getElem?_getD, exs]; rfl
    refine ixL_rd (v := .ref q0) R'.out (atI_nat (by rw [List.getElem?_map, eq0]; rfl)) ?_
    refine lst_is hq0 ?_
    walk_at "wh"
    have xl : xs.length ≤ i := midB_mem am xs (List.mem_of_getElem? exs)
    refine app_rd hq0 (by rw [sizeLine_eq]; omega) (fun J3 c3 h3 => ?_)
    walk_at "wh"
    refine ⟨_, _, qs', rfl, fun b o z => c3 _ _ (ne_of_none z fq) (sJ _ _ z), ?_, ?_, stepB_mem am⟩
    · unfold stepB
      rw [gd]
      exact R'.put eq0 c3 h3
    · rw [sl2]; split <;> omega
  · rintro σ I ⟨y2, y3, qs, rfl, sI, R, al, _⟩
    rw [List.length_map, tl, List.take_length] at R
    walk_at "wh"
    exact q L qs I sI R
/-- groups, field by field -/
def grp : Nat → List (List V) → List (Nat × V)
  | _, [] => []
  | k, g :: r => g.map (fun v => (k, v)) ++ grp (k + 1) r
theorem fold_grp : ∀ (g : List V) (acc : List (List V)) (k : Nat), k + 1 = acc.length → (g.map fun v => (k, v)).foldl stepB acc = acc.set k (acc.getD k [] ++ g)
  | [], acc, k, h => by
    show acc = _
    rw [List.append_nil, List.getD_eq_getElem?_getD, List.getElem?_eq_getElem (by walk_at "om")]
    show acc = acc.set k acc[k]
    rw [List.set_getElem_self]
  | v :: g, acc, k, h => by
    show (g.map fun v => (k, v)).foldl stepB (stepB acc (k, v)) = _
    have e : stepB acc (k, v) = acc.set k (acc.getD k [] ++ [v]) := by
      unfold stepB
      rw [if_neg (by walk_at "om")]
    rw [e, fold_grp g _ k (by rw [List.length_set]; exact h)]
    rw [List.set_set, List.getD_eq_getElem?_getD, List.getElem?_set_self (by walk_at "om")]
    show acc.set k (acc.getD k [] ++ [v] ++ g) = _
    rw [List.append_assoc]
    rfl
theorem fold_one {g : List V} (hg : g ≠ []) (acc : List (List V)) : (g.map fun v => (acc.length, v)).foldl stepB acc = acc ++ [g] := by
  cases g with
  | nil => exact absurd rfl hg
  | cons v g =>
    show (g.map fun v => (acc.length, v)).foldl stepB (stepB acc (acc.length, v)) = _
    have e : stepB acc (acc.length, v) = acc ++ [[v]] := by
      unfold stepB
      rw [if_pos rfl, List.getD_eq_getElem?_getD, List.getElem?_append_right (Nat.le_refl _), Nat.sub_self, List.set_append_right _ _ (Nat.le_refl _), Nat.sub_self]
      rfl
    rw [e, fold_grp g (acc ++ [[v]]) acc.length (by rw [List.length_append]; rfl), List.set_append_right _ _ (Nat.le_refl _), Nat.sub_self, List.getD_eq_getElem?_getD, List.getElem?_append_right (Nat.le_refl _), Nat.sub_self]
    rfl
theorem fold_all : ∀ (gs acc : List (List V)), (∀ g ∈ gs, g ≠ []) → (grp acc.length gs).foldl stepB acc = acc ++ gs
  | [], acc, _ => by show acc = _; rw [List.append_nil]
  | g :: gs, acc, h => by
    show (g.map (fun v => (acc.length, v)) ++ grp (acc.length + 1) gs).foldl stepB acc = _
    rw [List.foldl_append, fold_one (h g (.head _)) acc, show acc.length + 1 = (acc ++ [g]).length by rw [List.length_append]; rfl, fold_all gs (acc ++ [g]) fun x hx => h x (.tail _ hx), List.append_assoc]
    rfl
/-- each thing's field is one that is there, or the next one -/
theorem grp_le : ∀ (gs acc : List (List V)), (∀ g ∈ gs, g ≠ []) → ∀ (i : Nat) x, (grp acc.length gs)[i]? = some x → x.1 ≤ (((grp acc.length gs).take i).foldl stepB acc).length
  | [], acc, _, i, x, e => by simp [grp] at e
  | g :: gs, acc, h, i, x, e => by
    have grow : ∀ (ys : List (Nat × V)) (a : List (List V)), a.length ≤ (ys.foldl stepB a).length := fun ys => by
      induction ys with
      | nil => exact fun a => Nat.le_refl _
      | cons y ys ih =>
        intro a
        refine Nat.le_trans ?_ (ih (stepB a y))
        rw [stepB_len]; split <;> omega
    have e : (g.map (fun v => (acc.length, v)) ++ grp (acc.length + 1) gs)[i]? = some x := e
    show x.1 ≤ (((g.map (fun v => (acc.length, v)) ++ grp (acc.length + 1) gs).take i).foldl stepB acc).length
    by_cases hi : i < g.length
    · rw [List.getElem?_append_left (by rw [List.length_map]; exact hi), List.getElem?_map] at e
      obtain ⟨v, _, rfl⟩ := Option.map_eq_some_iff.mp e
      exact grow _ _
    · rw [List.getElem?_append_right (by rw [List.length_map]; omega), List.length_map] at e
      rw [List.take_append, List.length_map, List.take_of_length_le (by rw [List.length_map]; omega), List.foldl_append, fold_one (h g (.head _)) acc]
      rw [show acc.length + 1 = (acc ++ [g]).length by rw [List.length_append]; rfl] at e ⊢
      exact grp_le gs (acc ++ [g]) (fun x hx => h x (.tail _ hx)) (i - g.length) x e
-- @@split
def isF (r : Rw) : Bool := decide (r.1 = "flow")
def isN (r : Rw) : Bool := decide (r.1 = "number")
theorem filt_all {p : Rw → Bool} {rs : List Rw} (h : ∀ r ∈ rs, p r = true) : rs.filter p = rs := List.filter_eq_self.mpr h
theorem filt_none {p : Rw → Bool} {rs : List Rw} (h : ∀ r ∈ rs, p r = false) : rs.filter p = [] := List.filter_eq_nil_iff.mpr fun r hr => by rw [h r hr]; exact Bool.false_ne_true
theorem len_sum : ∀ {nss : List (List Int)} {ns : List Int}, ns ∈ nss → ns.length ≤ (nss.map List.length).sum
  | [], _, h => by cases h
  | x :: xs, ns, h => by
    rw [List.map_cons, List.sum_cons]
    rcases List.mem_cons.mp h with rfl | h
    · omega
    · have := len_sum h; omega
theorem flowsF (xss : List (List F3)) (nss : List (List Int)) : (flowsR 0 xss ++ numsR 0 nss).filter isF = flowsR 0 xss := by
  rw [List.filter_append, filt_all (flowsR_all (P := fun r => isF r = true) (m := xss.length) (by walk_at "om") fun xs _ z _ j _ => rfl), filt_none (numsR_all (P := fun r => isF r = false) (m := nss.length) (l := (nss.map List.length).sum) (by walk_at "om") (fun ns hn => len_sum hn) fun ns _ n _ j _ c _ => by show decide (("number" : Str) = "flow") = false; decide +kernel), List.append_nil]
theorem numsF (xss : List (List F3)) (nss : List (List Int)) : (flowsR 0 xss ++ numsR 0 nss).filter isN = numsR 0 nss := by
  rw [List.filter_append, filt_none (flowsR_all (P := fun r => isN r = false) (m := xss.length) (by walk_at "om") fun xs _ z _ j _ => by show decide (("flow" : Str) = "number") = false; decide +kernel), filt_all (numsR_all (P := fun r => isN r = true) (m := nss.length) (l := (nss.map List.length).sum) (by walk_at "om") (fun ns hn => len_sum hn) fun ns _ n _ j _ c _ => rfl), List.nil_append]
theorem rowsRg (xss : List (List F3)) (nss : List (List Int)) : ∀ r ∈ flowsR 0 xss ++ numsR 0 nss, RgR r := fun r hr => by
  rcases List.mem_append.mp hr with hr | hr
  · exact flowsR_all (P := RgR) (m := xss.length) (by walk_at "om") (fun xs _ z _ j _ => .inl ⟨rfl, rfl⟩) r hr
  · exact numsR_all (P := RgR) (m := nss.length) (l := (nss.map List.length).sum) (by walk_at "om") (fun ns hn => len_sum hn) (fun ns _ n _ j _ c _ => .inr ⟨rfl, rfl⟩) r hr
/-- addresses, cut as the rows are -/
def cutA : List (List F3) → List Addr → List (List Addr)
  | [], _ => []
  | xs :: r, as => as.take xs.length :: cutA r (as.drop xs.length)
theorem cutA_len : ∀ (xss : List (List F3)) (as : List Addr), (cutA xss as).length = xss.length
  | [], _ => rfl
  | xs :: r, as => by show (cutA r (as.drop xs.length)).length + 1 = _; rw [cutA_len r]; rfl
theorem cutA_grp : ∀ (xss : List (List F3)) (k : Nat) (as : List Addr), as.length = (flowsR k xss).length → ((flowsR k xss).zip as).map (fun x => ((x.1.2.getD 0 0).toNat, V.ref x.2)) = grp k ((cutA xss as).map fun bs => bs.map V.ref)
  | [], k, as, h => by
    show (([] : List Rw).zip as).map _ = []
    rfl
  | xs :: xss, k, as, h => by
    show ((xs.map (flR k) ++ flowsR (k + 1) xss).zip as).map _ = ((as.take xs.length).map V.ref).map (fun v => (k, v)) ++ grp (k + 1) ((cutA xss (as.drop xs.length)).map fun bs => bs.map V.ref)
    have h : as.length = (xs.map (flR k) ++ flowsR (k + 1) xss).length := h
    rw [List.length_append, List.length_map] at h
    have ih := cutA_grp xss (k + 1) (as.drop xs.length) (by rw [List.length_drop]; omega)
    rw [← ih]
    conv => lhs; rw [show as = as.take xs.length ++ as.drop xs.length from (List.take_append_drop _ _).symm]
    rw [List.zip_append (by rw [List.length_map, List.length_take]; omega), List.map_append]
    congr 1
    apply List.ext_getElem?
    intro i
    rw [List.getElem?_map, List.getElem?_map, List.getElem?_map]
    by_cases hi : i < xs.length
    · have e1 : (xs.map (flR k))[i]? = some (flR k xs[i]) := by rw [List.getElem?_map, List.getElem?_eq_getElem hi]; rfl
      obtain ⟨a, ea⟩ : ∃ a, (as.take xs.length)[i]? = some a := ⟨_, List.getElem?_eq_getElem (by rw [List.length_take]; omega)⟩
      have ez : ((xs.map (flR k)).zip (as.take xs.length))[i]? = some (flR k xs[i], a) := List.getElem?_zip_eq_some.mpr ⟨e1, ea⟩
      rw [ez, ea]
      show some (((k : Int)).toNat, V.ref a) = some (k, V.ref a)
      rw [Int.toNat_natCast]
    · rw [List.getElem?_eq_none (by rw [List.length_zip, List.length_map, List.length_take]; omega), List.getElem?_eq_none (by rw [List.length_take]; omega)]
      rfl
theorem cutA_at {H : Hp} : ∀ (xss : List (List F3)) (k : Nat) (as : List Addr), as.length = (flowsR k xss).length → (∀ (i : Nat) a r, as[i]? = some a → (flowsR k xss)[i]? = some r → H a = some (.tup [.int (r.2.getD 1 0), .int (r.2.getD 2 0), .int (r.2.getD 3 0)])) → ∀ (j : Nat) bs xs, (cutA xss as)[j]? = some bs → xss[j]? = some xs → bs.length = xs.length ∧ ∀ (i : Nat) b z, bs[i]? = some b → xs[i]? = some z → H b = some (.tup [.int z.1, .int z.2.1, .int z.2.2])
  | [], _, _, _, _, j, bs, xs, e, _ => by simp [cutA] at e
  | ys :: xss, k, as, h, ht, j, bs, xs, e1, e2 => by
    have h : as.length = (ys.map (flR k) ++ flowsR (k + 1) xss).length := h
    have ht : ∀ (i : Nat) a r, as[i]? = some a → (ys.map (flR k) ++ flowsR (k + 1) xss)[i]? = some r → H a = some (.tup [.int (r.2.getD 1 0), .int (r.2.getD 2 0), .int (r.2.getD 3 0)]) := ht
    rw [List.length_append, List.length_map] at h
    cases j with
    | zero =>
      cases e1
      cases e2
      refine ⟨by rw [List.length_take]; omega, fun i b z eb ez => ?_⟩
      have hi := (List.getElem?_eq_some_iff.mp ez).1
      rw [List.getElem?_take_of_lt hi] at eb
      have := ht i b (flR k z) eb (by rw [List.getElem?_append_left (by rw [List.length_map]; exact hi), List.getElem?_map, ez]; rfl)
      exact this
    | succ j =>
      refine cutA_at xss (k + 1) (as.drop ys.length) (by rw [List.length_drop]; omega) (fun i a r ea er => ?_) j bs xs e1 e2
      rw [List.getElem?_drop] at ea
      exact ht (ys.length + i) a r ea (by rw [List.getElem?_append_right (by rw [List.length_map]; omega), List.length_map, Nat.add_sub_cancel_left]; exact er)
theorem nums_grp : ∀ (nss : List (List Int)) (k : Nat), (numsR k nss).map (fun r => ((r.2.getD 0 0).toNat, V.int (r.2.getD 2 0))) = grp k (nss.map fun ns => ns.map V.int)
  | [], _ => rfl
  | ns :: nss, k => by
    show (numR k 0 ns ++ numsR (k + 1) nss).map _ = (ns.map V.int).map (fun v => (k, v)) ++ grp (k + 1) (nss.map fun ns => ns.map V.int)
    rw [List.map_append, nums_grp nss (k + 1)]
    congr 1
    have go : ∀ (c : Nat) (ns : List Int), (numR k c ns).map (fun r => ((r.2.getD 0 0).toNat, V.int (r.2.getD 2 0))) = (ns.map V.int).map (fun v => (k, v)) := fun c ns => by
      induction ns generalizing c with
      | nil => rfl
      | cons n ns ih =>
        show (((k : Int)).toNat, V.int n) :: (numR k (c + 1) ns).map _ = (k, V.int n) :: _
        rw [ih, Int.toNat_natCast]
    exact go 0 ns
structure PpN (H H' : Hp) (p st tb : Addr) (rs : List (Addr × List Addr)) (xss : List (List F3)) (qs : List Addr) (nss : List (List Int)) : Prop where
  pap : PpX H' p st tb rs xss qs nss
  nd : ((st :: rs.map (·.1)) ++ (tb :: qs)).Nodup
  fr : ∀ a ∈ (st :: rs.map (·.1)) ++ (tb :: qs), H a = none
theorem rowsP_go {x : Str} {rs : List Rw} (h : rowsP spB x = .inr rs) : (∃ xs, goP spB xs [] = .inr rs) ∧ rs.length ≤ x.length + 1 := by
  obtain ⟨xs, y, el⟩ := lines_snoc x
  have ll := lines_le x
  rw [el, List.length_append, List.length_singleton] at ll
  unfold rowsP at h
  rw [el, List.dropLast_concat] at h
  cases hg : goP spB xs [] with
  | inl k => rw [hg] at h; cases h
  | inr us =>
    rw [hg] at h
    dsimp only at h
    split at h
    · cases h
      have := goP_len hg
      rw [List.length_nil] at this
      exact ⟨⟨xs, hg⟩, by walk_at "om"⟩
    · cases h
@[irreducible] def sp_read_paper (a_NoText : Addr) : Sp := fun vs H Q E => ∃ (x : Str), vs = [.str x] ∧ x.length ≤ 100000 ∧
  (∀ s, resP x = .inr s → ∀ p st tb rs qs H', Same H H' → PpN H H' p st tb rs s.1 qs s.2 → Q (.ref p) H') ∧
  (∀ k, resP x = .inl k → ∀ d H', H d = none → Same H H' → H' d = some (.xd [("row", .int k)]) → E (.ref a_NoText) (some d) H')
theorem read_paper_rd {a_NoText : Addr} {H : Hp} {x : Str} {Q : VK} {E : XK} (hx : x.length ≤ 100000) (q1 : ∀ s, resP x = .inr s → ∀ p st tb rs qs H', Same H H' → PpN H H' p st tb rs s.1 qs s.2 → Q (.ref p) H')
    (q2 : ∀ k, resP x = .inl k → ∀ d H', H d = none → Same H H' → H' d = some (.xd [("row", .int k)]) → E (.ref a_NoText) (some d) H') : sp_read_paper a_NoText [.str x] H Q E := by unfold sp_read_paper; exact ⟨x, rfl, hx, q1, q2⟩
theorem filt_succ {p : Rw → Bool} {rs : List Rw} {j : Nat} {r : Rw} (e : rs[j]? = some r) : (rs.take (j + 1)).filter p = (rs.take j).filter p ++ if p r = true then [r] else [] := by
  rw [List.take_succ, e, List.filter_append]
  congr 1
  show [r].filter p = _
  rw [List.filter_cons]
  split <;> rfl
theorem snoc_at {α β : Type} {R : α → β → Prop} {xs : List α} {ys : List β} {x : α} {y : β} (l : xs.length = ys.length) (h : ∀ (i : Nat) a b, xs[i]? = some a → ys[i]? = some b → R a b) (hn : R x y) : ∀ (i : Nat) a b, (xs ++ [x])[i]? = some a → (ys ++ [y])[i]? = some b → R a b := fun i a b e1 e2 => by
  by_cases hi : i < xs.length
  · rw [List.getElem?_append_left hi] at e1
    rw [List.getElem?_append_left (by walk_at "om")] at e2
    exact h i a b e1 e2
  · rw [List.getElem?_append_right (by walk_at "om")] at e1
    rw [List.getElem?_append_right (by walk_at "om"), ← l] at e2
    have i0 : i - xs.length = 0 := by have := (List.getElem?_eq_some_iff.mp e1).1; simp at this; omega
    rw [i0] at e1 e2
    cases e1
    cases e2
    exact hn
theorem getD3 {r : Rw} (h : r.2.length = 4) {i : Nat} (hi : i < 4) : (V.str r.1 :: r.2.map V.int)[i + 1]? = some (.int (r.2.getD i 0)) := by
  rw [List.getElem?_cons_succ, List.getElem?_map, List.getD_eq_getElem?_getD, List.getElem?_eq_getElem (by walk_at "om")]
  rfl
theorem field_nat {xss : List (List F3)} {nss : List (List Int)} : (∀ r ∈ flowsR 0 xss, ∃ k : Nat, r.2.getD 0 0 = (k : Int)) ∧ ∀ r ∈ numsR 0 nss, ∃ k : Nat, r.2.getD 0 0 = (k : Int) :=
  ⟨flowsR_all (m := xss.length) (by walk_at "om") fun _ _ _ _ j _ => ⟨j, rfl⟩, numsR_all (m := nss.length) (l := (nss.map List.length).sum) (by walk_at "om") (fun ns hn => len_sum hn) fun _ _ _ _ j _ _ _ => ⟨j, rfl⟩⟩
set_option maxHeartbeats 0 in
theorem ok_read_paper {f : Addr} {fd : FuncData} (F : Fun K "read_paper" "read_paper" s_read_paper f fd) (N : Nm mg) (D_by_fields : Def P w K mg base CX0 1 "by_fields" ["pairs"] sp_by_fields) (D_read_rows : Def P w K mg base (CXR P w) 4 "read_rows" ["text", "stands"] (sp_read_rows mg a_NoText)) (D_stands_in_paper : Def P w K mg base CX0 2 "stands_in_paper" ["ahead", "row"] sp_stands_in_paper) (Z : Cz K mg base a_HostError a_NoBattle a_NoPlan a_NoMix a_NoStream a_NoSide a_NoAlike a_NoNumber a_TooGreat a_NoEven a_NoText a_NoRow a_NoName a_NoPlace i_NoText) : FnOk P w K mg base (CXR P w) 5 f fd ["text"] (sp_read_paper a_NoText) := by
  refine F.okR sc_read_paper (fun vs H Q E h => by unfold sp_read_paper at h; obtain ⟨_, rfl, _⟩ := h; rfl) (fun cdv A outer s H vs Q E hr hX h => ?_)
  unfold sp_read_paper at h
  obtain ⟨x, rfl, hx, q1, q2⟩ := h
  have hu := hu40 hr
  refine ⟨_, (pss_cons (psS (i := 1) sc_read_paper.nd (pD D_read_rows hr (passR hX) (pa_cons (pq 0) (pa_cons (peFn D_stands_in_paper) pa_nil))))
      (pss_cons (psC (i := 2) (N := ["row"]) (ks := [none]) sc_read_paper.nd (piSeqK (K := K) rfl (pq 1)) (fun cl C s3 H3 fp => (pg_name (i := 0) nb_2 rfl (by first | exact Or.inl rfl | exact Or.inr rfl))) (fun cl C s3 H3 fp => (pts_one (ptC (oEqXK (K := K) rfl (by exact hu)) (peIxK (K := K) rfl (pq 0) pe_int) pe_str))) (fun cl C s3 H3 fp => (peTup (pa_cons (peIxK (K := K) rfl (pq 0) pe_int) (pa_cons (peTup (pa_cons (peIxK (K := K) rfl (pq 0) pe_int) (pa_cons (peIxK (K := K) rfl (pq 0) pe_int) (pa_cons (peIxK (K := K) rfl (pq 0) pe_int) pa_nil)))) pa_nil)))) (.skip .nil))
      (pss_cons (psC (i := 3) (N := ["row"]) (ks := [none]) sc_read_paper.nd (piSeqK (K := K) rfl (pq 1)) (fun cl C s3 H3 fp => (pg_name (i := 0) nb_2 rfl (by first | exact Or.inl rfl | exact Or.inr rfl))) (fun cl C s3 H3 fp => (pts_one (ptC (oEqXK (K := K) rfl (by exact hu)) (peIxK (K := K) rfl (pq 0) pe_int) pe_str))) (fun cl C s3 H3 fp => (peTup (pa_cons (peIxK (K := K) rfl (pq 0) pe_int) (pa_cons (peIxK (K := K) rfl (pq 0) pe_int) pa_nil)))) (.skip .nil))
      (pss_cons (psIf (ptW (pwOr (ptC (oEqXK (K := K) rfl (by exact hu)) (pB (cLenK (K := K) rfl) N.len_ bt_len (pa_cons (pq 2) pa_nil)) pe_int) (pw_or1 (ptC (oEqXK (K := K) rfl (by exact hu)) (pB (cLenK (K := K) rfl) N.len_ bt_len (pa_cons (pq 3) pa_nil)) pe_int)))) (pss_one (psRaiseO Z.z_NoText Z.g_NoText (ini_NoText Z.fi_NoText Z.z_NoText) (hr.mono (by decide)) rfl hX (pB (cLenK (K := K) rfl) N.len_ bt_len (pa_cons (pq 1) pa_nil)))) pss_nil)
      (pss_one (ps_ret (peTup (pa_cons (pD D_by_fields hr pass0 (pa_cons (pq 2) pa_nil)) (pa_cons (pD D_by_fields hr pass0 (pa_cons (pq 3) pa_nil)) pa_nil))))))))), ?_⟩
  refine fn_rd (fun v hv => ?_)
  refine read_rows_rd hv hx (fun rs hrs l ps H1 g1 s1 R => ?_) (fun k hk d H1 fd sd hd => q2 k (by unfold resP; rw [hk]) d H1 fd sd hd)
  obtain ⟨⟨_, hgo⟩, okl⟩ := rowsP_go hrs
  obtain ⟨gs, ers⟩ := goP_st0 hgo
  have hres : resP x = if (stOf rs).1.isEmpty || (stOf rs).2.isEmpty then .inl rs.length else .inr (stOf rs) := by unfold resP; rw [hrs]
  rw [hres] at q1 q2
  generalize stOf rs = sq at q1 q2 gs ers
  obtain ⟨xss, nss⟩ := sq
  have ers : flowsR 0 xss ++ numsR 0 nss = rs := ers
  have eF : rs.filter isF = flowsR 0 xss := by rw [← ers]; exact flowsF xss nss
  have eN : rs.filter isN = numsR 0 nss := by rw [← ers]; exact numsF xss nss
  have okg : ∀ r ∈ rs, RgR r := by rw [← ers]; exact rowsRg xss nss
  obtain ⟨natF, natN⟩ := field_nat (xss := xss) (nss := nss)
  clear hres hrs hgo
  have pl := R.len
  refine iterL_rd R.out ?_
  refine comp_A (n := (ps.map V.ref).length) (Wk.list (SqL.of R.out)) (by rw [List.length_map, sizeLine_eq]; omega) (fun acc j ys σ I => ∃ (t : Option V) (ts : List (Addr × Addr)), σ = [t] ∧ ys = ts.map (fun t => V.ref t.1) ∧ ts.length = ((rs.take j).filter isF).length ∧ ∀ (i : Nat) (t : Addr × Addr) (r : Rw), ts[i]? = some t → ((rs.take j).filter isF)[i]? = some r → (t.1 ≠ acc ∧ t.2 ≠ acc) ∧ I t.1 = some (.tup [.int (r.2.getD 0 0), .ref t.2]) ∧ I t.2 = some (.tup [.int (r.2.getD 1 0), .int (r.2.getD 2 0), .int (r.2.getD 3 0)])) ?_ ?_ ?_ ?_
  · intro acc I f1 s2 h1
    exact ⟨none, [], rfl, rfl, rfl, fun i t r e => by simp at e⟩
  · rintro acc j ys σ I I' s' ⟨t, ts, r1, r2, r3, r4⟩
    exact ⟨t, ts, r1, r2, r3, fun i t r e1 e2 => ⟨(r4 i t r e1 e2).1, s' _ _ (r4 i t r e1 e2).2.1, s' _ _ (r4 i t r e1 e2).2.2⟩⟩
  · rintro acc j x ys σ I R1 S1 hj facc s2 hacc hx ⟨t, ts, rfl, rfl, tl, tr⟩ kR kS
    rw [List.getElem?_map] at hx
    obtain ⟨p, ep, rfl⟩ := Option.map_eq_some_iff.mp hx
    obtain ⟨r, er⟩ : ∃ r, rs[j]? = some r := ⟨_, List.getElem?_eq_getElem (by have := (List.getElem?_eq_some_iff.mp ep).1; omega)⟩
    have hp : I p = some (.tup (.str r.1 :: r.2.map V.int)) := s2 _ _ (R.row j p r ep er)
    have fs := filt_succ (p := isF) er
    refine ixT_rd (v := .str r.1) hp (atI_nat (j := 0) rfl) ?_
    refine br_dec (fun hf => ?_) (fun hf => ?_)
    · have l4 : r.2.length = 4 := by
        rcases okg r (List.mem_of_getElem? er) with ⟨_, h⟩ | ⟨h, _⟩
        · exact h
        · rw [hf] at h; exact absurd h (by decide +kernel)
      have at1 : ∀ (J : Hp) (i : Nat), i < 4 → atI (V.str r.1 :: r.2.map V.int) ((i + 1 : Nat) : Int) = some (.int (r.2.getD i 0)) := fun _ i hi => atI_nat (getD3 l4 hi)
      refine ixT_rd (v := .int (r.2.getD 0 0)) hp (at1 I 0 (by decide)) ?_
      refine ixT_rd (v := .int (r.2.getD 1 0)) hp (at1 I 1 (by decide)) ?_
      refine ixT_rd (v := .int (r.2.getD 2 0)) hp (at1 I 2 (by decide)) ?_
      refine ixT_rd (v := .int (r.2.getD 3 0)) hp (at1 I 3 (by decide)) ?_
      refine newT_rd (fun p2 I2 g2 t2 h2 => ?_)
      refine newT_rd (fun p3 I3 g3 t3 h3 => ?_)
      have n2 : p2 ≠ acc := Ne.symm (ne_of_none hacc g2)
      have n3 : p3 ≠ acc := Ne.symm (ne_of_none (t2 _ _ hacc) g3)
      walk_at "wh"
      refine kR _ _ _ (t2.trans t3) (fun I4 c4 => ⟨_, ts ++ [(p3, p2)], rfl, by rw [List.map_append]; rfl, ?_, ?_⟩)
      · rw [fs, show isF r = true from decide_eq_true hf, if_pos rfl, List.length_append, List.length_append, tl]; rfl
      · rw [fs, show isF r = true from decide_eq_true hf, if_pos rfl]
        refine snoc_at (R := fun (t : Addr × Addr) (r : Rw) => (t.1 ≠ acc ∧ t.2 ≠ acc) ∧ I4 t.1 = some (.tup [.int (r.2.getD 0 0), .ref t.2]) ∧ I4 t.2 = some (.tup [.int (r.2.getD 1 0), .int (r.2.getD 2 0), .int (r.2.getD 3 0)])) tl (fun i t r e1 e2 => ?_) ⟨⟨n3, n2⟩, c4 _ _ n3 h3, c4 _ _ n2 (t3 _ _ h2)⟩
        obtain ⟨m1, m2, m3⟩ := tr i t r e1 e2
        exact ⟨m1, c4 _ _ m1.1 ((t2.trans t3) _ _ m2), c4 _ _ m1.2 ((t2.trans t3) _ _ m3)⟩
    · walk_at "wh"
      refine kS _ _ (Same.refl _) ⟨_, ts, rfl, rfl, ?_, ?_⟩
      · rw [fs, show isF r = false from decide_eq_false hf, if_neg Bool.false_ne_true, List.append_nil]; exact tl
      · rw [fs, show isF r = false from decide_eq_false hf, if_neg Bool.false_ne_true, List.append_nil]; exact tr
  rintro fl ys σ H2 ffl s2 hfl ⟨t, ts, rfl, rfl, tl, tr⟩
  rw [List.length_map, List.take_of_length_le (by walk_at "om"), eF] at tl tr
  have R2 := R.same s2
  refine iterL_rd R2.out ?_
  refine comp_A (n := (ps.map V.ref).length) (Wk.list (SqL.of R2.out)) (by rw [List.length_map, sizeLine_eq]; omega) (fun acc j ys σ I => ∃ (t : Option V) (us : List Addr), σ = [t] ∧ ys = us.map V.ref ∧ us.length = ((rs.take j).filter isN).length ∧ ∀ (i : Nat) (u : Addr) (r : Rw), us[i]? = some u → ((rs.take j).filter isN)[i]? = some r → u ≠ acc ∧ I u = some (.tup [.int (r.2.getD 0 0), .int (r.2.getD 2 0)])) ?_ ?_ ?_ ?_
  · intro acc I f1 s2 h1
    exact ⟨none, [], rfl, rfl, rfl, fun i t r e => by simp at e⟩
  · rintro acc j ys σ I I' s' ⟨t, ts, r1, r2, r3, r4⟩
    exact ⟨t, ts, r1, r2, r3, fun i t r e1 e2 => ⟨(r4 i t r e1 e2).1, s' _ _ (r4 i t r e1 e2).2⟩⟩
  · rintro acc j x ys σ I R1 S1 hj facc s3 hacc hx ⟨t, us, rfl, rfl, ul, ur⟩ kR kS
    rw [List.getElem?_map] at hx
    obtain ⟨p, ep, rfl⟩ := Option.map_eq_some_iff.mp hx
    obtain ⟨r, er⟩ : ∃ r, rs[j]? = some r := ⟨_, List.getElem?_eq_getElem (by have := (List.getElem?_eq_some_iff.mp ep).1; omega)⟩
    have hp : I p = some (.tup (.str r.1 :: r.2.map V.int)) := s3 _ _ (R2.row j p r ep er)
    have fs := filt_succ (p := isN) er
    have rg := okg r (List.mem_of_getElem? er)
    refine ixT_rd (v := .str r.1) hp (atI_nat (j := 0) rfl) ?_
    refine br_dec (fun hf => ?_) (fun hf => ?_)
    · walk_at "wh"
      refine ixT_rd (v := .int (r.2.getD 0 0)) hp (atI_nat (rg.get (i := 0) (by decide))) ?_
      refine ixT_rd (v := .int (r.2.getD 2 0)) hp (atI_nat (rg.get (i := 2) (by decide))) ?_
      refine newT_rd (fun p3 I3 g3 t3 h3 => ?_)
      have n3 : p3 ≠ acc := Ne.symm (ne_of_none hacc g3)
      walk_at "wh"
      refine kR _ _ _ t3 (fun I4 c4 => ⟨_, us ++ [p3], rfl, by rw [List.map_append]; rfl, ?_, ?_⟩)
      · rw [fs, show isN r = true from decide_eq_true hf, if_pos rfl, List.length_append, List.length_append, ul]; rfl
      · rw [fs, show isN r = true from decide_eq_true hf, if_pos rfl]
        refine snoc_at (R := fun (u : Addr) (r : Rw) => u ≠ acc ∧ I4 u = some (.tup [.int (r.2.getD 0 0), .int (r.2.getD 2 0)])) ul (fun i t r e1 e2 => ?_) ⟨n3, c4 _ _ n3 h3⟩
        obtain ⟨m1, m2⟩ := ur i t r e1 e2
        exact ⟨m1, c4 _ _ m1 (t3 _ _ m2)⟩
    · walk_at "wh"
      refine kS _ _ (Same.refl _) ⟨_, us, rfl, rfl, ?_, ?_⟩
      · rw [fs, show isN r = false from decide_eq_false hf, if_neg Bool.false_ne_true, List.append_nil]; exact ul
      · rw [fs, show isN r = false from decide_eq_false hf, if_neg Bool.false_ne_true, List.append_nil]; exact ur
  rintro nu ys σ H3 fnu s3 hnu ⟨t, us, rfl, rfl, ul, ur⟩
  rw [List.length_map, List.take_of_length_le (by walk_at "om"), eN] at ul ur
  have hfl3 := s3 _ _ hfl
  have flm : (flowsR 0 xss).length ≤ 200000 := by rw [← eF]; exact Nat.le_trans (List.length_filter_le _ _) (by walk_at "om")
  have nlm : (numsR 0 nss).length ≤ 200000 := by rw [← eN]; exact Nat.le_trans (List.length_filter_le _ _) (by walk_at "om")
  have R3 := R2.same s3
  have s03 := (s1.trans s2).trans s3
  refine lenL_rd hfl3 ?_
  rw [List.length_map, tl]
  walk_at "wh"
  by_cases ex : xss = []
  · have q2 := q2 rs.length (by rw [ex]; rfl)
    refine br_dT (by rw [ex]; rfl) ?_
    refine br_T ?_
    refine lenL_rd R3.out ?_
    rw [List.length_map, pl]
    walk_at "wh"
    exact raiseI_rd (fun d J' fd sJ' hd => q2 d J' (s03.free fd) (s03.trans sJ') hd)
  have rl : ∀ xs ∈ xss, 1 ≤ xs.length := fun xs hx => List.length_pos_iff.mpr (gs.1 xs hx)
  have nl : ∀ ns ∈ nss, 1 ≤ ns.length := fun xs hx => List.length_pos_iff.mpr (gs.2 xs hx)
  have fl1 : 1 ≤ (flowsR 0 xss).length := by
    cases e : xss with
    | nil => exact absurd e ex
    | cons xs r =>
      have := rl xs (by rw [e]; exact List.mem_cons_self)
      show 1 ≤ (xs.map (flR 0) ++ flowsR 1 r).length
      rw [List.length_append, List.length_map]; omega
  refine br_dF (by walk_at "om") ?_
  refine lenL_rd hnu ?_
  rw [List.length_map, ul]
  walk_at "wh"
  by_cases en : nss = []
  · have q2 := q2 rs.length (by rw [en]; cases xss with | nil => rfl | cons a b => rfl)
    refine br_dT (by rw [en]; rfl) ?_
    refine lenL_rd R3.out ?_
    rw [List.length_map, pl]
    walk_at "wh"
    exact raiseI_rd (fun d J' fd sJ' hd => q2 d J' (s03.free fd) (s03.trans sJ') hd)
  have nl1 : 1 ≤ (numsR 0 nss).length := by
    cases e : nss with
    | nil => exact absurd e en
    | cons xs r =>
      have := nl xs (by rw [e]; exact List.mem_cons_self)
      show 1 ≤ (numR 0 0 xs ++ numsR 1 r).length
      rw [List.length_append, numR_len]; omega
  refine br_dF (by walk_at "om") ?_
  have q : ∀ p st tb rs qs H', Same H H' → PpN H H' p st tb rs xss qs nss → Q (.ref p) H' := q1 (xss, nss) (by
    cases xss with
    | nil => exact absurd rfl ex
    | cons a b =>
      cases nss with
      | nil => exact absurd rfl en
      | cons c d => rfl)
  have nx : ∀ bs ∈ cutA xss (ts.map (·.2)), (bs.map V.ref) ≠ [] := fun bs hb z => by
    obtain ⟨j, ej⟩ := List.getElem?_of_mem hb
    have hj := (List.getElem?_eq_some_iff.mp ej).1
    rw [cutA_len] at hj
    obtain ⟨l1, _⟩ := cutA_at (H := H3) xss 0 (ts.map (·.2)) (by rw [List.length_map]; exact tl) (fun i a r ea er => by
      rw [List.getElem?_map] at ea
      obtain ⟨t, et, rfl⟩ := Option.map_eq_some_iff.mp ea
      exact s3 _ _ (tr i t r et er).2.2) j bs xss[j] ej (List.getElem?_eq_getElem hj)
    have b1 := rl xss[j] (List.getElem_mem _)
    have b2 := congrArg List.length z
    rw [List.length_map, List.length_nil] at b2
    omega
  have gx : ∀ g ∈ (cutA xss (ts.map (·.2))).map (fun bs => bs.map V.ref), g ≠ [] := fun g hg => by
    obtain ⟨bs, hb, rfl⟩ := List.mem_map.mp hg
    exact nx bs hb
  have gn : ∀ g ∈ nss.map (fun ns => ns.map V.int), g ≠ [] := fun g hg z => by
    obtain ⟨ns, hn, rfl⟩ := List.mem_map.mp hg
    have b1 := nl ns hn
    have b2 := congrArg List.length z
    rw [List.length_map, List.length_nil] at b2
    omega
  have e1 := cutA_grp xss 0 (ts.map (·.2)) (by rw [List.length_map]; exact tl)
  have e2 := nums_grp nss 0
  have f1 := fold_all ((cutA xss (ts.map (·.2))).map fun bs => bs.map V.ref) [] gx
  have f2 := fold_all (nss.map fun ns => ns.map V.int) [] gn
  have o1 := grp_le ((cutA xss (ts.map (·.2))).map fun bs => bs.map V.ref) [] gx
  have o2 := grp_le (nss.map fun ns => ns.map V.int) [] gn
  rw [show ([] : List (List V)).length = 0 from rfl] at f1 f2 o1 o2
  rw [List.nil_append] at f1 f2
  rw [← e1] at f1 o1
  rw [← e2] at f2 o2
  refine by_fields_rd (ts := ts.map (·.1)) (sq := ((flowsR 0 xss).zip (ts.map (·.2))).map fun x => ((x.1.2.getD 0 0).toNat, V.ref x.2)) (by rw [hfl3, List.map_map]; rfl) (by rw [List.length_map, List.length_map, List.length_zip, List.length_map, tl, Nat.min_self]) (fun i a x ea ex => ?_) (by rw [List.length_map, List.length_zip, List.length_map]; omega) o1 (fun L1 q1 H4 s4 N1 => ?_)
  · rw [List.getElem?_map] at ea ex
    obtain ⟨t, et, rfl⟩ := Option.map_eq_some_iff.mp ea
    obtain ⟨z, ez, rfl⟩ := Option.map_eq_some_iff.mp ex
    obtain ⟨z1, z2⟩ := List.getElem?_zip_eq_some.mp ez
    rw [List.getElem?_map, et] at z2
    have z2 : some t.2 = some z.2 := z2
    obtain ⟨k, ek⟩ := natF z.1 (List.mem_of_getElem? z1)
    have := s3 _ _ (tr i t z.1 et z1).2.1
    rw [Option.some.inj z2] at this
    show H3 t.1 = some (.tup [.int (((z.1.2.getD 0 0).toNat : Nat) : Int), .ref z.2])
    rw [this, ek, Int.toNat_natCast]
  rw [f1] at N1
  have N1a := N1
  refine by_fields_rd (ts := us) (sq := (numsR 0 nss).map fun r => ((r.2.getD 0 0).toNat, V.int (r.2.getD 2 0))) (s4 _ _ hnu) (by rw [List.length_map]; exact ul) (fun i a x ea ex => ?_) (by rw [List.length_map]; omega) o2 (fun L2 q2 H5 s5 N2 => ?_)
  · rw [List.getElem?_map] at ex
    obtain ⟨r, er, rfl⟩ := Option.map_eq_some_iff.mp ex
    obtain ⟨k, ek⟩ := natN r (List.mem_of_getElem? er)
    have := s4 _ _ (ur i a r ea er).2
    show H4 a = some (.tup [.int (((r.2.getD 0 0).toNat : Nat) : Int), .int (r.2.getD 2 0)])
    rw [this, ek, Int.toNat_natCast]
  rw [f2] at N2
  have N1 := N1.same s5
  refine newT_rd (fun p H6 g6 s6 h6 => ?_)
  walk_at "wh"
  have N1 := N1.same s6
  have N2 := N2.same s6
  have s36 := (s4.trans s5).trans s6
  have cl := cutA_len xss (ts.map (·.2))
  have q1l := N1.len
  have q2l := N2.len
  rw [List.length_map] at q1l q2l
  have at_ := cutA_at (H := H6) xss 0 (ts.map (·.2)) (by rw [List.length_map]; exact tl) (fun i a r ea er => by
    rw [List.getElem?_map] at ea
    obtain ⟨t, et, rfl⟩ := Option.map_eq_some_iff.mp ea
    exact (s3.trans s36) _ _ (tr i t r et er).2.2)
  have zf : (q1.zip (cutA xss (ts.map (·.2)))).map (·.1) = q1 := by
    rw [List.map_fst_zip]
    omega
  have old : ∀ {J0 J : Hp} {L : Addr} {qs : List Addr} {acc : List (List V)}, LsN J0 J L qs acc → ∀ a ∈ L :: qs, J0 a = none ∧ ∃ o, J a = some o := fun {J0 J L qs acc} N a ha => by
    rcases List.mem_cons.mp ha with rfl | ha
    · exact ⟨N.fr, _, N.out⟩
    · obtain ⟨i, ei⟩ := List.getElem?_of_mem ha
      obtain ⟨z, ez⟩ : ∃ z, acc[i]? = some z := ⟨_, List.getElem?_eq_getElem (by have := N.len; have := (List.getElem?_eq_some_iff.mp ei).1; omega)⟩
      obtain ⟨r1, r2⟩ := N.row i a z ei ez
      exact ⟨r1, _, r2⟩
  refine q p L1 L2 (q1.zip (cutA xss (ts.map (·.2)))) q2 H6 (s03.trans s36) ⟨⟨h6, ⟨?_, ?_, ?_⟩, ⟨N2.out, by rw [q2l], ?_⟩⟩, ?_, ?_⟩
  · rw [N1.out]
    conv => lhs; rw [← zf]
    rw [List.map_map]
    rfl
  · rw [List.length_zip]; omega
  · intro i r xs er ex
    obtain ⟨z1, z2⟩ := List.getElem?_zip_eq_some.mp er
    obtain ⟨w1, w2⟩ := at_ i r.2 xs z2 ex
    exact ⟨(N1.row i r.1 (r.2.map V.ref) z1 (by rw [List.getElem?_map, z2]; rfl)).2, w1, w2⟩
  · intro i a ns ea en
    exact (N2.row i a (ns.map V.int) ea (by rw [List.getElem?_map, en]; rfl)).2
  · rw [zf, List.nodup_append]
    refine ⟨N1.nd, N2.nd, fun a ha b hb z => ?_⟩
    subst z
    obtain ⟨o, ho⟩ := (old N1a a ha).2
    rw [(old N2 a hb).1] at ho
    cases ho
  · rw [zf]
    intro a ha
    rcases List.mem_append.mp ha with ha | ha
    · exact s03.free (old N1 a ha).1
    · exact (s03.trans s4).free (old N2 a ha).1
-- @@split
/-! ### the law's own reading of a word -/
def figV (x : Str) : V := if numB x.cps.toList = true then .int (valS x) else .non
theorem cut1_minus {x : Str} : decide (Txt.slice x none (some 1) = "-") = decide (x.cps.toList.head? = some 45) := by
  rw [decide_eq_decide]
  have l : x.length = x.cps.toList.length := Array.length_toList.symm
  by_cases h0 : x.length = 0
  · have e : x.cps.toList = [] := List.length_eq_zero_iff.mp (by walk_at "om")
    rw [e]
    refine ⟨fun h => ?_, fun h => by cases h⟩
    have := congrArg (fun s : Str => s.cps.toList) h
    have hl := Txt.slice_le x none (some 1)
    rw [h, h0] at hl
    exact absurd hl (by decide +kernel)
  · have e : Txt.slice x none (some 1) = ⟨((x.cps.toList.drop (0 : Int).toNat).take ((1 : Int) - 0).toNat).toArray⟩ := beq_iff_eq.mp (PyProof.Rows.slice_closes_toL (by decide) (by walk_at "om"))
    have e' : (Txt.slice x none (some 1)).cps.toList = x.cps.toList.take 1 := by rw [e]; rfl
    obtain ⟨c, r, ec⟩ : ∃ c r, x.cps.toList = c :: r := by
      cases ex : x.cps.toList with
      | nil => rw [ex] at l; simp at l; omega
      | cons c r => exact ⟨c, r, rfl⟩
    rw [ec] at e' ⊢
    refine ⟨fun h => ?_, fun h => ?_⟩
    · rw [h, show ("-" : Str).cps.toList = [45] by decide +kernel] at e'
      have := List.cons.inj e'
      rw [List.head?_cons, ← this.1]
    · cases h
      exact PyProof.Rows.ext_toList (e'.trans (show [45] = _ by decide +kernel))
theorem str_nil {y : Str} : decide (y = "") = decide (y.cps.toList = []) := by
  rw [decide_eq_decide]
  exact ⟨fun h => by rw [h]; decide +kernel, fun h => PyProof.Rows.ext_toList (h.trans (by decide +kernel))⟩
theorem not_fig (c : Nat) : (!hasS "0123456789" ⟨#[c]⟩) = decide (¬ (48 ≤ c ∧ c ≤ 57)) := by rw [has_fig, decide_not]
@[irreducible] def sp__law_figured : Sp := fun vs H Q _ => ∃ (x : Str), vs = [.str x] ∧ x.length ≤ 1000000 ∧ ∀ H', Same H H' → Q (figV x) H'
theorem figured_rd {H : Hp} {x : Str} {Q : VK} {E : XK} (h : x.length ≤ 1000000) (q : ∀ H', Same H H' → Q (figV x) H') : sp__law_figured [.str x] H Q E := by unfold sp__law_figured; exact ⟨x, rfl, h, q⟩
set_option maxHeartbeats 0 in
theorem ok__law_figured {f : Addr} {fd : FuncData} (F : Fun K "_law_figured" "_law_figured" s__law_figured f fd) (N : Nm mg) (hD : PySem.W.nsIn K cStatics "sys.int_max_str_digits" = some none) : FnOk P w K mg base CX0 1 f fd ["_law_word"] sp__law_figured := by
  refine F.ok sc__law_figured (fun vs H Q E h => by unfold sp__law_figured at h; obtain ⟨_, rfl, _⟩ := h; rfl) (fun cdv A outer s H vs Q E hr h => ?_)
  unfold sp__law_figured at h
  obtain ⟨x, rfl, hx, q⟩ := h
  have hu := hu40 hr
  refine ⟨_, (pss_cons (psS (i := 1) sc__law_figured.nd (pq 0))
      (pss_cons (psCut (psIf (ptC (oEqXK (K := K) rfl (by exact hu)) (pe_slice (slZK (K := K) rfl) (pq 0) po_none (poSome pe_int)) pe_str) (pss_one (psS (i := 1) sc__law_figured.nd (pe_slice (slZK (K := K) rfl) (pq 0) (poSome pe_int) po_none))) pss_nil))
      (pss_cons (psIf (ptW (pwOr (ptC (oEqXK (K := K) rfl (by exact hu)) (pq 1) pe_str) (pw_or1 (ptC oGt (pB (cLenK (K := K) rfl) N.len_ bt_len (pa_cons (pq 1) pa_nil)) pe_int)))) (pss_one (ps_ret pe_non)) pss_nil)
      (pss_cons (psFor PassesOwn.never rfl (piStr (pq 1)) (pg_name (i := 2) sc__law_figured.nd rfl (by first | exact Or.inl rfl | exact Or.inr rfl)) (pss_one (psIf (ptC (oNotInZK (K := K) rfl) (pq 2) pe_str) (pss_one (ps_ret pe_non)) pss_nil)))
      (pss_cons (psIf (ptW (pwAnd (ptC (oEqXK (K := K) rfl (by exact hu)) (peIxK (K := K) rfl (pq 1) pe_int) pe_str) (pw_and1 (ptC (oNeXK (K := K) rfl (by exact hu)) (pq 0) pe_str)))) (pss_one (ps_ret pe_non)) pss_nil)
      (pss_one (ps_ret (pT (cIntL (K := K) rfl hD) N.int_ bt_int (pa_cons (pq 0) pa_nil))))))))), ?_⟩
  refine cut_rd (fun σ J => ∃ y : Str, σ = [some (.str x), some (.str y), none] ∧ J = H ∧ y.cps.toList = figL x.cps.toList ∧ y.length ≤ 1000000) ?_ ?_
  · walk_at "wh"
    refine ⟨by rw [sizeLine_eq]; omega, ?_⟩
    walk_at "wh"
    rw [cut1_minus]
    refine br_dec (fun h => ?_) (fun h => ?_)
    · walk_at "wh"
      refine ⟨by rw [sizeLine_eq]; omega, ?_⟩
      walk_at "wh"
      exact ⟨_, rfl, rfl, by rw [slice1 h, figL_minus h], Nat.le_trans (Txt.slice_le _ _ _) hx⟩
    · walk_at "wh"
      exact ⟨x, rfl, rfl, (figL_other h).symm, hx⟩
  rintro σ J ⟨y, rfl, rfl, ey, ly⟩
  have yl : y.length = (figL x.cps.toList).length := by rw [← ey]; exact Array.length_toList.symm
  have no : numB x.cps.toList = false → ∀ J', Same J J' → Q .non J' := fun e J' sJ => by
    have := q J' sJ
    unfold figV at this
    rw [if_neg (by rw [e]; exact Bool.false_ne_true)] at this
    exact this
  walk_at "wh"
  rw [str_nil, ey]
  refine br_dec (fun h0 => ?_) (fun h0 => ?_)
  · walk_at "wh"
    refine br_T ?_
    walk_at "wh"
    refine no ?_ J (Same.refl _)
    unfold numB
    rw [h0]
    rfl
  have l1 : 1 ≤ (figL x.cps.toList).length := List.length_pos_iff.mpr h0
  walk_at "wh"
  refine ⟨by rw [sizeLine_eq]; omega, ?_⟩
  refine br_dec (fun h2 => ?_) (fun h2 => ?_)
  · walk_at "wh"
    refine no ?_ J (Same.refl _)
    unfold numB
    rw [decide_eq_false (show ¬ (figL x.cps.toList).length ≤ 2000 by walk_at "om"), Bool.and_false]
    rfl
  refine iterS_rd ?_
  refine loop_str (fun i σ I => ∃ t : Option V, σ = [some (.str x), some (.str y), t] ∧ I = J ∧ ∀ c ∈ (figL x.cps.toList).take i, 48 ≤ c ∧ c ≤ 57) ?_ ?_ ?_
  · exact ⟨_, rfl, rfl, fun c hc => by cases hc⟩
  · rintro i c σ I ec ⟨t, rfl, rfl, al⟩
    rw [ey] at ec
    walk_at "wh"
    first | rw [not_fig] | rw [has_fig]
    refine br_dec (fun hc => ?_) (fun hc => ?_)
    · walk_at "wh"
      refine no ?_ I (Same.refl _)
      unfold numB
      rw [show (figL x.cps.toList).all (fun c => decide (48 ≤ c ∧ c ≤ 57)) = false from Bool.eq_false_iff.mpr fun z => hc (of_decide_eq_true (List.all_eq_true.mp z c (List.mem_of_getElem? ec))), Bool.and_false]
      rfl
    · walk_at "wh"
      refine ⟨_, rfl, rfl, fun d hd => ?_⟩
      rw [List.take_succ, ec] at hd
      rcases List.mem_append.mp hd with hd | hd
      · exact al d hd
      · rw [List.mem_singleton.mp hd]
        exact Classical.byContradiction hc
  · rintro σ I ⟨t, rfl, rfl, al⟩
    rw [ey, List.take_length] at al
    obtain ⟨c, r, ec⟩ : ∃ c r, figL x.cps.toList = c :: r := by
      cases e : figL x.cps.toList with
      | nil => exact absurd e h0
      | cons c r => exact ⟨c, r, rfl⟩
    have n1 : decide (1 ≤ (figL x.cps.toList).length) = true := decide_eq_true l1
    have n2 : decide ((figL x.cps.toList).length ≤ 2000) = true := decide_eq_true (by walk_at "om")
    have al' : (figL x.cps.toList).all (fun c => decide (48 ≤ c ∧ c ≤ 57)) = true := List.all_eq_true.mpr fun d hd => decide_eq_true (al d hd)
    have c0 : decide ((⟨#[c]⟩ : Str) = "0") = decide (c = 48) := by
      rw [decide_eq_decide]
      exact ⟨fun h => by have := congrArg (fun s : Str => s.cps.toList) h; rw [show ("0" : Str).cps.toList = [48] by decide +kernel] at this; simpa using this, fun h => by rw [h]; rfl⟩
    have x0 : decide (x = "0") = decide (x.cps.toList = [48]) := by
      rw [decide_eq_decide]
      exact ⟨fun h => by rw [h]; decide +kernel, fun h => PyProof.Rows.ext_toList (h.trans (by decide +kernel))⟩
    have fb : numB x.cps.toList = (!decide (c = 48) || decide (x.cps.toList = [48])) := by
      unfold numB
      rw [n1, n2, al', ec]
      show (true && true && true && (decide ((some c : Option Nat) ≠ some 48) || _)) = _
      rw [Bool.and_self, Bool.and_self, Bool.true_and]
      congr 1
      by_cases hc : c = 48
      · simp [hc]
      · simp [hc]
    have yes : numB x.cps.toList = true → rIntL x I fun v H' => Q v H' := fun e => by
      have := q I (Same.refl _)
      unfold figV at this
      rw [if_pos e] at this
      exact intL_rd (numB_int e) (by rw [sizeLine_eq]; omega) this
    walk_at "wh"
    refine ⟨c, by rw [sizeLine_eq]; omega, by rw [ey, ec]; exact atI_nat (j := 0) rfl, ?_⟩
    walk_at "wh"
    rw [c0]
    by_cases hc : c = 48
    · rw [decide_eq_true hc]
      refine br_T ?_
      walk_at "wh"
      rw [x0]
      by_cases hx0 : x.cps.toList = [48]
      · rw [decide_eq_true hx0]
        refine br_F ?_
        walk_at "wh"
        exact yes (by rw [fb, decide_eq_true hx0, Bool.or_true])
      · rw [decide_eq_false hx0]
        refine br_T ?_
        walk_at "wh"
        refine no ?_ I (Same.refl _)
        rw [fb, decide_eq_true hc, decide_eq_false hx0]
        rfl
    · rw [decide_eq_false hc]
      refine br_F ?_
      refine br_F ?_
      walk_at "wh"
      exact yes (by rw [fb, decide_eq_false hc]; rfl)
/-- the numbers of words -/
def figsP (ws : List Str) : Option (List Int) := if ws.all (fun w => numB w.cps.toList) = true then some (ws.map valS) else none
@[irreducible] def sp__law_all_figured : Sp := fun vs H Q _ => ∃ (l : Addr) (ws : List Str), vs = [.ref l] ∧ H l = some (.lst (ws.map V.str)) ∧ ws.length ≤ 2000000 ∧ (∀ w ∈ ws, w.length ≤ 1000000) ∧ (figsP ws = none → ∀ H', Same H H' → Q .non H') ∧ ∀ zs, figsP ws = some zs → ∀ p H', H p = none → Same H H' → H' p = some (.lst (zs.map V.int)) → Q (.ref p) H'
theorem all_figured_rd {H : Hp} {l : Addr} {ws : List Str} {Q : VK} {E : XK} (h : H l = some (.lst (ws.map V.str))) (h1 : ws.length ≤ 2000000) (h2 : ∀ w ∈ ws, w.length ≤ 1000000) (q1 : figsP ws = none → ∀ H', Same H H' → Q .non H') (q2 : ∀ zs, figsP ws = some zs → ∀ p H', H p = none → Same H H' → H' p = some (.lst (zs.map V.int)) → Q (.ref p) H') : sp__law_all_figured [.ref l] H Q E := by
  unfold sp__law_all_figured; exact ⟨l, ws, rfl, h, h1, h2, q1, q2⟩
theorem inV_none : ∀ (ws : List Str), inV .non (ws.map figV) = !(ws.all fun w => numB w.cps.toList)
  | [] => rfl
  | w :: ws => by
    show (eqV (figV w) .non || inV .non (ws.map figV)) = _
    rw [inV_none ws, List.all_cons]
    unfold figV
    cases hw : numB w.cps.toList
    · rw [if_neg Bool.false_ne_true]; rfl
    · rw [if_pos rfl]; rfl
set_option maxHeartbeats 0 in
theorem ok__law_all_figured {f : Addr} {fd : FuncData} (F : Fun K "_law_all_figured" "_law_all_figured" s__law_all_figured f fd) (N : Nm mg) (D__law_figured : Def P w K mg base CX0 1 "_law_figured" ["_law_word"] sp__law_figured) : FnOk P w K mg base CX0 2 f fd ["_law_words"] sp__law_all_figured := by
  refine F.ok sc__law_all_figured (fun vs H Q E h => by unfold sp__law_all_figured at h; obtain ⟨_, _, rfl, _⟩ := h; rfl) (fun cdv A outer s H vs Q E hr h => ?_)
  unfold sp__law_all_figured at h
  obtain ⟨l, ws, rfl, hl, h1, h2, q1, q2⟩ := h
  have hu := hu40 hr
  refine ⟨_, (pss_cons (psC (i := 1) (N := ["_law_word"]) (ks := [none]) sc__law_all_figured.nd (piSeqK (K := K) rfl (pq 0)) (fun cl C s3 H3 fp => (pg_name (i := 0) nb_5 rfl (by first | exact Or.inl rfl | exact Or.inr rfl))) (fun cl C s3 H3 fp => pts_nil) (fun cl C s3 H3 fp => (pD D__law_figured hr pass0 (pa_cons (pq 0) pa_nil))) (.skip .nil))
      (pss_cons (psIf (ptC (oInTTK (K := K) rfl (by exact hu)) pe_non (pq 1)) (pss_one (ps_ret pe_non)) pss_nil)
      (pss_one (ps_ret (pq 1))))), ?_⟩
  refine iterL_rd hl ?_
  refine comp_I (n := (ws.map V.str).length) (Wk.list (SqL.of hl)) (by rw [List.length_map, sizeLine_eq]; omega) (fun j => (ws.map figV).getD j .non) (fun _ => true) (fun j σ => ∃ t : Option V, σ = [t]) ⟨none, rfl⟩ ?_ ?_
  · rintro j v σ J' R' S' hj sJ hx ⟨_, rfl⟩ kk _
    rw [List.getElem?_map] at hx
    obtain ⟨w, en, rfl⟩ := Option.map_eq_some_iff.mp hx
    rw [show (ws.map figV).getD j .non = figV w by rw [List.getD_eq_getElem?_getD, List.getElem?_map, en]; rfl] at kk
    refine br_T ?_
    refine figured_rd (h2 w (List.mem_of_getElem? en)) (fun J1 t1 => ?_)
    walk_at "wh"
    exact kk rfl _ _ t1 ⟨_, rfl⟩
  intro acc H1 g1 s1 k1
  rw [filter_T, range_vals (f := fun v : V => v) (xs := ws.map figV) (d := .non) (by rw [List.length_map, List.length_map]), List.map_id'] at k1
  refine inL_rd (SqL.of k1) rfl (by
    rw [List.all_eq_true]
    intro v hv
    obtain ⟨w, _, rfl⟩ := List.mem_map.mp hv
    unfold figV
    split <;> rfl) ?_
  rw [inV_none]
  cases ha : ws.all (fun w => numB w.cps.toList)
  · walk_at "wh"
    first | refine br_T ?_ | refine br_not (br_F ?_)
    walk_at "wh"
    exact q1 (by unfold figsP; rw [ha]; rfl) H1 s1
  · walk_at "wh"
    first | refine br_F ?_ | refine br_not (br_T ?_)
    walk_at "wh"
    refine q2 (ws.map valS) (by unfold figsP; rw [ha]; rfl) acc H1 g1 s1 ?_
    rw [k1]
    congr 2
    rw [List.map_map]
    refine List.map_congr_left fun w hw => ?_
    unfold figV
    rw [if_pos (List.all_eq_true.mp ha w hw)]
    rfl
-- @@split
/-! ### the law's own reading of a row -/
structure StT (H0 I : Hp) (L1 L2 : Addr) (rs : List (Addr × List Addr)) (qs : List Addr) (s : St2) : Prop where
  stm : StX I L1 rs s.1
  tab : TbX I L2 qs s.2
  nd : ((L1 :: rs.map (·.1)) ++ (L2 :: qs)).Nodup
  fr : ∀ a ∈ (L1 :: rs.map (·.1)) ++ (L2 :: qs), H0 a = none
  sm : Same H0 I
theorem StT.same {H0 I J : Hp} {L1 L2 : Addr} {rs : List (Addr × List Addr)} {qs : List Addr} {s : St2} (T : StT H0 I L1 L2 rs qs s) (sJ : Same I J) : StT H0 J L1 L2 rs qs s := ⟨T.stm.same sJ, T.tab.same sJ, T.nd, T.fr, T.sm.trans sJ⟩
theorem StT.is {H0 I : Hp} {L1 L2 : Addr} {rs : List (Addr × List Addr)} {qs : List Addr} {s : St2} (T : StT H0 I L1 L2 rs qs s) : ∀ a ∈ (L1 :: rs.map (·.1)) ++ (L2 :: qs), ∃ ys, I a = some (.lst ys) := fun a ha => by
  have l1 := T.stm.len
  have l2 := T.tab.len
  rcases List.mem_append.mp ha with ha | ha
  · rcases List.mem_cons.mp ha with rfl | ha
    · exact ⟨_, T.stm.out⟩
    · obtain ⟨r, hr, rfl⟩ := List.mem_map.mp ha
      obtain ⟨i, ei⟩ := List.getElem?_of_mem hr
      obtain ⟨xs, ex⟩ : ∃ z, s.1[i]? = some z := ⟨_, List.getElem?_eq_getElem (by have := (List.getElem?_eq_some_iff.mp ei).1; omega)⟩
      exact ⟨_, (T.stm.row i r xs ei ex).out⟩
  · rcases List.mem_cons.mp ha with rfl | ha
    · exact ⟨_, T.tab.out⟩
    · obtain ⟨i, ei⟩ := List.getElem?_of_mem ha
      obtain ⟨xs, ex⟩ : ∃ z, s.2[i]? = some z := ⟨_, List.getElem?_eq_getElem (by have := (List.getElem?_eq_some_iff.mp ei).1; omega)⟩
      exact ⟨_, T.tab.row i a xs ei ex⟩
/-- one of the lists is changed -/
theorem RwX.chg {I J : Hp} {w p : Addr} {bs : List Addr} {xs : List F3} (R : RwX I p bs xs) (c : ∀ b o, b ≠ w → I b = some o → J b = some o) (n : p ≠ w) (hw : ∃ ys, I w = some (.lst ys)) : RwX J p bs xs := by
  obtain ⟨ys, hw⟩ := hw
  exact ⟨c _ _ n R.out, R.len, fun i b x e1 e2 => c _ _ (fun z => by have := R.row i b x e1 e2; rw [z, hw] at this; cases this) (R.row i b x e1 e2)⟩
theorem snoc_get {α : Type} {xs : List α} {x y : α} {i : Nat} (e : (xs ++ [x])[i]? = some y) : (i < xs.length ∧ xs[i]? = some y) ∨ (i = xs.length ∧ y = x) := by
  by_cases hi : i < xs.length
  · rw [List.getElem?_append_left hi] at e
    exact .inl ⟨hi, e⟩
  · rw [List.getElem?_append_right (by walk_at "om")] at e
    have i0 : i - xs.length = 0 := by have := (List.getElem?_eq_some_iff.mp e).1; simp at this; omega
    rw [i0] at e
    exact .inr ⟨by walk_at "om", (Option.some.inj e).symm⟩
theorem StT.smC {H0 I J : Hp} {L1 L2 w : Addr} {rs : List (Addr × List Addr)} {qs : List Addr} {s : St2} (T : StT H0 I L1 L2 rs qs s) (hw : w ∈ (L1 :: rs.map (·.1)) ++ (L2 :: qs)) (c : ∀ b o, b ≠ w → I b = some o → J b = some o) : Same H0 J := fun b o z => c _ _ (fun e => by have := T.fr w hw; rw [← e, z] at this; cases this) (T.sm _ _ z)
theorem StT.newF {H0 I J : Hp} {L1 L2 q t : Addr} {rs : List (Addr × List Addr)} {qs : List Addr} {s : St2} {z : F3} (T : StT H0 I L1 L2 rs qs s) (fq : I q = none) (c : ∀ b o, b ≠ L1 → I b = some o → J b = some o) (hL : J L1 = some (.lst ((rs.map fun r => V.ref r.1) ++ [.ref q]))) (hq : J q = some (.lst [.ref t])) (ht : J t = some (.tup [.int z.1, .int z.2.1, .int z.2.2])) : StT H0 J L1 L2 (rs ++ [(q, [t])]) qs (s.1 ++ [[z]], s.2) := by
  have l1 := T.stm.len
  have m1 : L1 ∈ (L1 :: rs.map (·.1)) ++ (L2 :: qs) := by simp
  have nd := T.nd
  have is := T.is
  have nL : ∀ a ∈ rs.map (·.1) ++ (L2 :: qs), a ≠ L1 := fun a ha e => by
    rw [List.cons_append, List.nodup_cons] at nd
    exact nd.1 (e ▸ ha)
  have nq : ∀ a ∈ (L1 :: rs.map (·.1)) ++ (L2 :: qs), a ≠ q := fun a ha e => by
    obtain ⟨ys, h⟩ := is a ha
    rw [e, fq] at h
    cases h
  refine ⟨⟨by rw [hL, List.map_append]; rfl, by rw [List.length_append, List.length_append, l1]; rfl, fun i r xs e1 e2 => ?_⟩, ⟨c _ _ (nL _ (by simp)) T.tab.out, T.tab.len, fun i a ns e1 e2 => c _ _ (nL _ (by simp [List.mem_of_getElem? e1])) (T.tab.row i a ns e1 e2)⟩, ?_, fun a ha => ?_, T.smC m1 c⟩
  · rcases snoc_get e1 with ⟨hi, e1⟩ | ⟨hi, rfl⟩
    · rcases snoc_get e2 with ⟨_, e2⟩ | ⟨hj, _⟩
      · exact (T.stm.row i r xs e1 e2).chg c (nL _ (by simp only [List.mem_append, List.mem_map]; exact .inl ⟨r, List.mem_of_getElem? e1, rfl⟩)) ⟨_, T.stm.out⟩
      · omega
    · rcases snoc_get e2 with ⟨hj, _⟩ | ⟨_, rfl⟩
      · omega
      · refine ⟨hq, rfl, fun j b x e3 e4 => ?_⟩
        cases j with
        | zero => cases e3; cases e4; exact ht
        | succ j => simp at e3
  · rw [List.map_append, ← List.cons_append, List.append_assoc]
    rw [List.nodup_append] at nd ⊢
    obtain ⟨n1, n2, n3⟩ := nd
    refine ⟨n1, ?_, fun a ha b hb => ?_⟩
    · show (q :: (L2 :: qs)).Nodup
      exact List.nodup_cons.mpr ⟨fun hm => nq q (List.mem_append_right _ hm) rfl, n2⟩
    · have hb : b ∈ q :: (L2 :: qs) := hb
      rcases List.mem_cons.mp hb with rfl | hb
      · exact nq a (List.mem_append_left _ ha)
      · exact n3 a ha b hb
  · rw [List.map_append, ← List.cons_append, List.append_assoc] at ha
    rcases List.mem_append.mp ha with ha | ha
    · exact T.fr a (List.mem_append_left _ ha)
    · have ha : a ∈ q :: (L2 :: qs) := ha
      rcases List.mem_cons.mp ha with rfl | ha
      · exact T.sm.free fq
      · exact T.fr a (List.mem_append_right _ ha)
theorem StT.addF {H0 I J : Hp} {L1 L2 w t : Addr} {as : List (Addr × List Addr)} {bs qs : List Addr} {xss : List (List F3)} {ys : List F3} {nss : List (List Int)} {z : F3} (T : StT H0 I L1 L2 (as ++ [(w, bs)]) qs (xss ++ [ys], nss)) (c : ∀ b o, b ≠ w → I b = some o → J b = some o) (hw : J w = some (.lst (bs.map V.ref ++ [.ref t]))) (ht : J t = some (.tup [.int z.1, .int z.2.1, .int z.2.2])) : StT H0 J L1 L2 (as ++ [(w, bs ++ [t])]) qs (xss ++ [ys ++ [z]], nss) := by
  have l1 : (as ++ [(w, bs)]).length = (xss ++ [ys]).length := T.stm.len
  rw [List.length_append, List.length_append] at l1
  have al : as.length = xss.length := by simpa using l1
  have nd := T.nd
  have e0 : ((as ++ [(w, bs)]).map (·.1)) = as.map (·.1) ++ [w] := by rw [List.map_append]; rfl
  have m1 : w ∈ (L1 :: (as ++ [(w, bs)]).map (·.1)) ++ (L2 :: qs) := by rw [e0]; simp
  have iw : ∃ us, I w = some (.lst us) := T.is w m1
  have RW := T.stm.row as.length (w, bs) ys (by rw [List.getElem?_append_right (Nat.le_refl _), Nat.sub_self]; rfl) (by rw [List.getElem?_append_right (by walk_at "om"), al, Nat.sub_self]; rfl)
  rw [e0] at nd
  have nw : ∀ a ∈ (L1 :: as.map (·.1)) ++ (L2 :: qs), a ≠ w := fun a ha e => by
    subst e
    rw [← List.cons_append, List.append_assoc, List.nodup_append] at nd
    obtain ⟨_, n2, n3⟩ := nd
    rcases List.mem_append.mp ha with ha | ha
    · exact n3 a ha a (by simp) rfl
    · have n2 : (a :: (L2 :: qs)).Nodup := n2
      exact (List.nodup_cons.mp n2).1 ha
  refine ⟨⟨?_, by rw [List.length_append, List.length_append, al]; rfl, fun i r xs e1 e2 => ?_⟩, ⟨c _ _ (nw _ (by simp)) T.tab.out, T.tab.len, fun i a ns e1 e2 => c _ _ (nw _ (by simp [List.mem_of_getElem? e1])) (T.tab.row i a ns e1 e2)⟩, ?_, fun a ha => ?_, T.smC m1 c⟩
  · have := c _ _ (nw L1 (by simp)) T.stm.out
    rw [this, List.map_append, List.map_append]
    rfl
  · rcases snoc_get e1 with ⟨hi, e1⟩ | ⟨hi, rfl⟩
    · rcases snoc_get e2 with ⟨_, e2⟩ | ⟨hj, _⟩
      · exact (T.stm.row i r xs (by rw [List.getElem?_append_left hi]; exact e1) (by show (xss ++ [ys])[i]? = _; rw [List.getElem?_append_left (by walk_at "om")]; exact e2)).chg c (nw _ (by simp only [List.cons_append, List.mem_cons, List.mem_append, List.mem_map]; exact .inr (.inl ⟨r, List.mem_of_getElem? e1, rfl⟩))) iw
      · omega
    · rcases snoc_get e2 with ⟨hj, _⟩ | ⟨_, rfl⟩
      · omega
      · have rl : bs.length = ys.length := RW.len
        refine ⟨by rw [List.map_append]; exact hw, by rw [List.length_append, List.length_append, rl]; rfl, fun j b x e3 e4 => ?_⟩
        rcases snoc_get e3 with ⟨hj, e3⟩ | ⟨hj, rfl⟩
        · rcases snoc_get e4 with ⟨_, e4⟩ | ⟨hk, _⟩
          · have := RW.row j b x e3 e4
            obtain ⟨us, iw⟩ := iw
            exact c _ _ (fun e => by rw [e, iw] at this; cases this) this
          · omega
        · rcases snoc_get e4 with ⟨hk, _⟩ | ⟨_, rfl⟩
          · omega
          · exact ht
  · rw [show ((as ++ [(w, bs ++ [t])]).map (·.1)) = as.map (·.1) ++ [w] by rw [List.map_append]; rfl]; exact nd
  · rw [show ((as ++ [(w, bs ++ [t])]).map (·.1)) = (as ++ [(w, bs)]).map (·.1) by rw [e0, List.map_append]; rfl] at ha; exact T.fr a ha
theorem StT.newN {H0 I J : Hp} {L1 L2 q : Addr} {rs : List (Addr × List Addr)} {qs : List Addr} {s : St2} {n : Int} (T : StT H0 I L1 L2 rs qs s) (fq : I q = none) (c : ∀ b o, b ≠ L2 → I b = some o → J b = some o) (hL : J L2 = some (.lst (qs.map V.ref ++ [.ref q]))) (hq : J q = some (.lst [.int n])) : StT H0 J L1 L2 rs (qs ++ [q]) (s.1, s.2 ++ [[n]]) := by
  have l1 := T.tab.len
  have m1 : L2 ∈ (L1 :: rs.map (·.1)) ++ (L2 :: qs) := by simp
  have nd := T.nd
  have is := T.is
  rw [List.nodup_append] at nd
  obtain ⟨n1, n2, n3⟩ := nd
  have nq : ∀ a ∈ (L1 :: rs.map (·.1)) ++ (L2 :: qs), a ≠ q := fun a ha e => by
    obtain ⟨ys, h⟩ := is a ha
    rw [e, fq] at h
    cases h
  have nA : ∀ a ∈ L1 :: rs.map (·.1), a ≠ L2 := fun a ha => n3 a ha L2 (by simp)
  have nB : ∀ a ∈ qs, a ≠ L2 := fun a ha e => (List.nodup_cons.mp n2).1 (e ▸ ha)
  refine ⟨⟨c _ _ (nA _ (by simp)) T.stm.out, T.stm.len, fun i r xs e1 e2 => (T.stm.row i r xs e1 e2).chg c (nA _ (by simp only [List.mem_cons, List.mem_map]; exact .inr ⟨r, List.mem_of_getElem? e1, rfl⟩)) ⟨_, T.tab.out⟩⟩, ⟨by rw [hL, List.map_append]; rfl, by rw [List.length_append, List.length_append, l1]; rfl, fun i a ns e1 e2 => ?_⟩, ?_, fun a ha => ?_, T.smC m1 c⟩
  · rcases snoc_get e1 with ⟨hi, e1⟩ | ⟨hi, rfl⟩
    · rcases snoc_get e2 with ⟨_, e2⟩ | ⟨hj, _⟩
      · exact c _ _ (nB _ (List.mem_of_getElem? e1)) (T.tab.row i a ns e1 e2)
      · omega
    · rcases snoc_get e2 with ⟨hj, _⟩ | ⟨_, rfl⟩
      · omega
      · exact hq
  · rw [List.nodup_append]
    refine ⟨n1, ?_, fun a ha b hb => ?_⟩
    · rw [← List.cons_append, List.nodup_append]
      exact ⟨n2, by simp, fun a ha b hb => by rw [List.mem_singleton.mp hb]; exact nq a (List.mem_append_right _ ha)⟩
    · rw [← List.cons_append] at hb
      rcases List.mem_append.mp hb with hb | hb
      · exact n3 a ha b hb
      · rw [List.mem_singleton.mp hb]; exact nq a (List.mem_append_left _ ha)
  · rw [← List.cons_append, ← List.append_assoc] at ha
    rcases List.mem_append.mp ha with ha | ha
    · exact T.fr a ha
    · rw [List.mem_singleton.mp ha]; exact T.sm.free fq
theorem StT.addN {H0 I J : Hp} {L1 L2 w : Addr} {rs : List (Addr × List Addr)} {as : List Addr} {xss : List (List F3)} {nss : List (List Int)} {ms : List Int} {n : Int} (T : StT H0 I L1 L2 rs (as ++ [w]) (xss, nss ++ [ms])) (c : ∀ b o, b ≠ w → I b = some o → J b = some o) (hw : J w = some (.lst (ms.map V.int ++ [.int n]))) : StT H0 J L1 L2 rs (as ++ [w]) (xss, nss ++ [ms ++ [n]]) := by
  have l1 : (as ++ [w]).length = (nss ++ [ms]).length := T.tab.len
  rw [List.length_append, List.length_append] at l1
  have al : as.length = nss.length := by simpa using l1
  have nd := T.nd
  have m1 : w ∈ (L1 :: rs.map (·.1)) ++ (L2 :: (as ++ [w])) := by simp
  have iw : ∃ us, I w = some (.lst us) := T.is w m1
  rw [List.nodup_append] at nd
  obtain ⟨n1, n2, n3⟩ := nd
  have nA : ∀ a ∈ L1 :: rs.map (·.1), a ≠ w := fun a ha => n3 a ha w (by simp)
  rw [← List.cons_append, List.nodup_append] at n2
  have nB : ∀ a ∈ L2 :: as, a ≠ w := fun a ha => n2.2.2 a ha w (by simp)
  refine ⟨⟨c _ _ (nA _ (by simp)) T.stm.out, T.stm.len, fun i r xs e1 e2 => (T.stm.row i r xs e1 e2).chg c (nA _ (by simp only [List.mem_cons, List.mem_map]; exact .inr ⟨r, List.mem_of_getElem? e1, rfl⟩)) iw⟩, ⟨c _ _ (nB _ (by simp)) T.tab.out, by rw [List.length_append, List.length_append, al]; rfl, fun i a ns e1 e2 => ?_⟩, T.nd, T.fr, T.smC m1 c⟩
  rcases snoc_get e1 with ⟨hi, e1⟩ | ⟨hi, rfl⟩
  · rcases snoc_get e2 with ⟨_, e2⟩ | ⟨hj, _⟩
    · exact c _ _ (nB _ (List.mem_cons_of_mem _ (List.mem_of_getElem? e1))) (T.tab.row i a ns (by rw [List.getElem?_append_left hi]; exact e1) (by show (nss ++ [ms])[i]? = _; rw [List.getElem?_append_left (by walk_at "om")]; exact e2))
    · omega
  · rcases snoc_get e2 with ⟨hj, _⟩ | ⟨_, rfl⟩
    · omega
    · rw [List.map_append]; exact hw
-- @@split
def tkS (s : St2) (x : Str) : Option St2 := match rowP x with
  | some r => if spB (rowsS s).getLast? r = true then some (pushS s r) else none
  | none => none
theorem tk_none {s : St2} {x w0 : Str} {ws : List Str} (ew : wordsS x = w0 :: ws) (h : figsP ws = none) : tkS s x = none := by
  have : rowP x = none := by
    unfold rowP
    rw [ew]
    unfold figsP at h
    split at h
    · cases h
    · rename_i hh
      rw [if_neg]
      show ¬ (hasW w0 (ws.length : Int) && ws.all _) = true
      rw [Bool.eq_false_iff.mpr hh, Bool.and_false]
      exact Bool.false_ne_true
  unfold tkS
  rw [this]
theorem tk_some {s : St2} {x w0 : Str} {ws : List Str} {zs : List Int} (G : GdS s) (ew : wordsS x = w0 :: ws) (h : figsP ws = some zs) : tkS s x = if (hasW w0 (zs.length : Int) && okS s (w0, zs)) = true then some (pushS s (w0, zs)) else none := by
  unfold figsP at h
  split at h
  case isFalse => cases h
  rename_i hh
  cases h
  rw [List.length_map]
  have rp : rowP x = if hasW w0 (ws.length : Int) = true then some (w0, ws.map valS) else none := by
    unfold rowP
    rw [ew]
    show (if (hasW w0 (ws.length : Int) && ws.all (fun w => numB w.cps.toList)) = true then some (w0, ws.map valS) else none) = _
    rw [hh, Bool.and_true]
  unfold tkS
  rw [rp]
  cases hw : hasW w0 (ws.length : Int)
  · rw [if_neg Bool.false_ne_true, Bool.false_and, if_neg Bool.false_ne_true]
  · rw [if_pos rfl, Bool.true_and]
    dsimp only
    rw [spB_ok G]
theorem hasW_flow (m : Int) : hasW "flow" m = decide (m = 4) := by
  unfold hasW
  rw [if_neg (by decide +kernel), show lookS WT "flow" = .int 4 by decide +kernel, decide_eq_decide]
  exact ⟨fun h => (V.int.inj h).symm, fun h => by rw [h]⟩
theorem hasW_number (m : Int) : hasW "number" m = decide (m = 3) := by
  unfold hasW
  rw [if_neg (by decide +kernel), show lookS WT "number" = .int 3 by decide +kernel, decide_eq_decide]
  exact ⟨fun h => (V.int.inj h).symm, fun h => by rw [h]⟩
theorem eqNil {K : PySem.W.Frag} {H : Hp} {a b : Addr} {xs : List V} (h1 : H a = some (.lst xs)) (h2 : H b = some (.lst [])) : EqR K H 1 (.ref a) (.ref b) (decide (xs = [])) := by
  cases xs with
  | nil => exact EqR.lst (n := 0) (fun _ => true) (SqL.of h1) (SqL.of h2) rfl (fun j x y e => by simp at e)
  | cons x xs => exact EqR.lstN (n := 0) (SqL.of h1) (SqL.of h2) (by simp)
theorem inV_two (z a b : Int) : inV (.int z) [.int a, .int b] = (decide (z = a) || decide (z = b)) := by
  show (eqV (.int a) (.int z) || (eqV (.int b) (.int z) || false)) = _
  rw [Bool.or_false]
  show (decide (a = z) || decide (b = z)) = _
  rw [show decide (a = z) = decide (z = a) by rw [decide_eq_decide]; exact eq_comm, show decide (b = z) = decide (z = b) by rw [decide_eq_decide]; exact eq_comm]
theorem map_nil_iff {α β : Type} {f : α → β} {xs : List α} : decide (xs.map f = []) = decide (xs = []) := by
  rw [decide_eq_decide]
  exact List.map_eq_nil_iff
@[irreducible] def sp__law_took : Sp := fun vs H Q _ => ∃ (H0 : Hp) (L1 L2 : Addr) (rs : List (Addr × List Addr)) (qs : List Addr) (s : St2) (x : Str), vs = [.ref L1, .ref L2, .str x] ∧ StT H0 H L1 L2 rs qs s ∧ GdS s ∧ (rowsS s).length ≤ 200000 ∧ x.length ≤ 1000000 ∧ (tkS s x = none → ∀ H', Same H H' → Q (.bl false) H') ∧ ∀ s', tkS s x = some s' → ∀ rs' qs' H', StT H0 H' L1 L2 rs' qs' s' → Q (.bl true) H'
theorem took_rd {H H0 : Hp} {L1 L2 : Addr} {rs : List (Addr × List Addr)} {qs : List Addr} {s : St2} {x : Str} {Q : VK} {E : XK} (T : StT H0 H L1 L2 rs qs s) (G : GdS s) (hl : (rowsS s).length ≤ 200000) (hx : x.length ≤ 1000000) (q1 : tkS s x = none → ∀ H', Same H H' → Q (.bl false) H') (q2 : ∀ s', tkS s x = some s' → ∀ rs' qs' H', StT H0 H' L1 L2 rs' qs' s' → Q (.bl true) H') : sp__law_took [.ref L1, .ref L2, .str x] H Q E := by
  unfold sp__law_took; exact ⟨H0, L1, L2, rs, qs, s, x, rfl, T, G, hl, hx, q1, q2⟩
theorem flows_many : ∀ {xss : List (List F3)} {k : Nat}, (∀ xs ∈ xss, xs ≠ []) → xss.length ≤ (flowsR k xss).length ∧ ∀ xs ∈ xss, xs.length ≤ (flowsR k xss).length
  | [], _, _ => ⟨Nat.le_refl _, fun _ h => by cases h⟩
  | ys :: xss, k, h => by
    obtain ⟨i1, i2⟩ := flows_many (xss := xss) (k := k + 1) fun x hx => h x (.tail _ hx)
    have l := List.length_pos_iff.mpr (h ys (.head _))
    have e : (flowsR k (ys :: xss)).length = ys.length + (flowsR (k + 1) xss).length := by
      show (ys.map (flR k) ++ flowsR (k + 1) xss).length = _
      rw [List.length_append, List.length_map]
    rw [e, List.length_cons]
    refine ⟨by walk_at "om", fun xs hx => ?_⟩
    rcases List.mem_cons.mp hx with rfl | hx
    · omega
    · have := i2 xs hx; omega
theorem nums_many : ∀ {nss : List (List Int)} {k : Nat}, (∀ xs ∈ nss, xs ≠ []) → nss.length ≤ (numsR k nss).length ∧ ∀ xs ∈ nss, xs.length ≤ (numsR k nss).length
  | [], _, _ => ⟨Nat.le_refl _, fun _ h => by cases h⟩
  | ys :: xss, k, h => by
    obtain ⟨i1, i2⟩ := nums_many (nss := xss) (k := k + 1) fun x hx => h x (.tail _ hx)
    have l := List.length_pos_iff.mpr (h ys (.head _))
    have e : (numsR k (ys :: xss)).length = ys.length + (numsR (k + 1) xss).length := by
      show (numR k 0 ys ++ numsR (k + 1) xss).length = _
      rw [List.length_append, numR_len]
    rw [e, List.length_cons]
    refine ⟨by walk_at "om", fun xs hx => ?_⟩
    rcases List.mem_cons.mp hx with rfl | hx
    · omega
    · have := i2 xs hx; omega
set_option maxHeartbeats 0 in
theorem ok__law_took {f : Addr} {fd : FuncData} (F : Fun K "_law_took" "_law_took" s__law_took f fd) (N : Nm mg) (D__law_all_figured : Def P w K mg base CX0 2 "_law_all_figured" ["_law_words"] sp__law_all_figured) : FnOk P w K mg base CX0 3 f fd ["_law_stream", "_law_table", "_law_row"] sp__law_took := by
  refine F.ok sc__law_took (fun vs H Q E h => by unfold sp__law_took at h; obtain ⟨_, _, _, _, _, _, _, rfl, _⟩ := h; rfl) (fun cdv A outer s H vs Q E hr h => ?_)
  unfold sp__law_took at h
  obtain ⟨H0, L1, L2, rs, qs, ss, x, rfl, T, G, hl, hx, q1, q2⟩ := h
  have hu := hu40 hr
  obtain ⟨w0, ws, ew⟩ := words_cons x
  have wl := words_le x
  have sh : ∀ w ∈ w0 :: ws, w.length ≤ 1000000 := fun w hw => Nat.le_trans (word_short (by rw [ew]; exact hw)) hx
  rw [ew, List.length_cons] at wl
  obtain ⟨fm1, fm2⟩ := flows_many (k := 0) G.1
  obtain ⟨nm1, nm2⟩ := nums_many (k := 0) G.2
  unfold rowsS at hl
  rw [List.length_append] at hl
  have tl1 := T.stm.len
  have tl2 := T.tab.len
  refine ⟨_, (pss_cons (psS (i := 3) sc__law_took.nd (peM_split (K := K) rfl (pq 2) (pa_cons pe_str pa_nil)))
      (pss_cons (psS (i := 4) sc__law_took.nd (pD D__law_all_figured hr pass0 (pa_cons (pe_slice (slZK (K := K) rfl) (pq 3) (poSome pe_int) po_none) pa_nil)))
      (pss_cons (psIf (ptC oIsX (pq 4) pe_non) (pss_one (ps_ret pe_bl)) pss_nil)
      (pss_cons (psIf (ptW (pwAnd (ptC (oEqXK (K := K) rfl (by exact hu)) (peIxK (K := K) rfl (pq 3) pe_int) pe_str) (pwAnd (ptC (oEqXK (K := K) rfl (by exact hu)) (pB (cLenK (K := K) rfl) N.len_ bt_len (pa_cons (pq 4) pa_nil)) pe_int) (pw_and1 (ptC (oEqXK (K := K) rfl (by exact hu)) (pq 1) (peLst pa_nil)))))) (pss_cons (psIf (ptW (pwOr (ptC (oLtX (by exact hu)) (peIxK (K := K) rfl (pq 4) pe_int) pe_int) (pw_or1 (ptC (oNotInZK (K := K) rfl) (peIxK (K := K) rfl (pq 4) pe_int) (peTup (pa_cons (pe_op oSub (pB (cLenK (K := K) rfl) N.len_ bt_len (pa_cons (pq 0) pa_nil)) pe_int) (pa_cons (pB (cLenK (K := K) rfl) N.len_ bt_len (pa_cons (pq 0) pa_nil)) pa_nil))))))) (pss_one (ps_ret pe_bl)) pss_nil)
      (pss_cons (psCut (psIf (ptC (oEqXK (K := K) rfl (by exact hu)) (peIxK (K := K) rfl (pq 4) pe_int) (pB (cLenK (K := K) rfl) N.len_ bt_len (pa_cons (pq 0) pa_nil))) (pss_one (ps_expr (peM_append (pq 0) (pa_cons (peLst pa_nil) pa_nil)))) pss_nil))
      (pss_cons (ps_expr (peM_append (peIxK (K := K) rfl (pq 0) (pe_un uNeg pe_int)) (pa_cons (pT (cTupK (K := K) rfl) N.tuple_ bt_tuple (pa_cons (pe_slice (slZK (K := K) rfl) (pq 4) (poSome pe_int) po_none) pa_nil)) pa_nil)))
      (pss_one (ps_ret pe_bl))))) pss_nil)
      (pss_cons (psIf (ptW (pwOr (ptC (oNeXK (K := K) rfl (by exact hu)) (peIxK (K := K) rfl (pq 3) pe_int) pe_str) (pwOr (ptC (oNeXK (K := K) rfl (by exact hu)) (pB (cLenK (K := K) rfl) N.len_ bt_len (pa_cons (pq 4) pa_nil)) pe_int) (pw_or1 (ptC (oLtX (by exact hu)) (peIxK (K := K) rfl (pq 4) pe_int) pe_int))))) (pss_one (ps_ret pe_bl)) pss_nil)
      (pss_cons (psIf (ptW (pwAnd (ptC (oEqXK (K := K) rfl (by exact hu)) (peIxK (K := K) rfl (pq 4) pe_int) (pB (cLenK (K := K) rfl) N.len_ bt_len (pa_cons (pq 1) pa_nil))) (pw_and1 (ptC (oEqXK (K := K) rfl (by exact hu)) (peIxK (K := K) rfl (pq 4) pe_int) pe_int)))) (pss_cons (ps_expr (peM_append (pq 1) (pa_cons (peLst (pa_cons (peIxK (K := K) rfl (pq 4) pe_int) pa_nil)) pa_nil)))
      (pss_one (ps_ret pe_bl))) pss_nil)
      (pss_cons (psIf (ptW (pwOr (ptC (oNeXK (K := K) rfl (by exact hu)) (peIxK (K := K) rfl (pq 4) pe_int) (pe_op oSub (pB (cLenK (K := K) rfl) N.len_ bt_len (pa_cons (pq 1) pa_nil)) pe_int)) (pw_or1 (ptC (oNeXK (K := K) rfl (by exact hu)) (peIxK (K := K) rfl (pq 4) pe_int) (pB (cLenK (K := K) rfl) N.len_ bt_len (pa_cons (peIxK (K := K) rfl (pq 1) (pe_un uNeg pe_int)) pa_nil)))))) (pss_one (ps_ret pe_bl)) pss_nil)
      (pss_cons (ps_expr (peM_append (peIxK (K := K) rfl (pq 1) (pe_un uNeg pe_int)) (pa_cons (peIxK (K := K) rfl (pq 4) pe_int) pa_nil)))
      (pss_one (ps_ret pe_bl)))))))))), ?_⟩
  refine split_rd (by decide +kernel) (by rw [sizeLine_eq]; omega) (fun l H1 g1 s1 k1 => ?_)
  rw [show Txt.split x (Str.ofString " ") = w0 :: ws from ew] at k1
  refine slL_rd (SqL.of k1) (fun l2 H2 g2 s2 k2 => ?_)
  rw [cut_drop (by decide)] at k2
  have k2 : H2 l2 = some (.lst (ws.map V.str)) := k2
  refine all_figured_rd k2 (by walk_at "om") (fun w hw => sh w (List.mem_cons_of_mem _ hw)) (fun hn H3 s3 => ?_) (fun zs hz p4 H4 g4 s4 k4 => ?_)
  · walk_at "wh"
    first | refine br_T ?_ | refine br_dT rfl ?_
    walk_at "wh"
    exact q1 (tk_none ew hn) H3 ((s1.trans s2).trans s3)
  have tk := tk_some G ew hz
  have s04 := (s1.trans s2).trans s4
  have T4 := T.same s04
  have hw4 := (s2.trans s4) _ _ k1
  have no : (hasW w0 (zs.length : Int) && okS ss (w0, zs)) = false → ∀ J, Same H4 J → Q (.bl false) J := fun e J sJ => q1 (by rw [tk, e]; rfl) J (s04.trans sJ)
  have yes : (hasW w0 (zs.length : Int) && okS ss (w0, zs)) = true → ∀ rs' qs' J, StT H0 J L1 L2 rs' qs' (pushS ss (w0, zs)) → Q (.bl true) J := fun e => q2 _ (by rw [tk, e]; rfl)
  walk_at "wh"
  first | refine br_F ?_ | refine br_dF (fun z => by cases z) ?_
  refine ixL_rd (v := .str w0) hw4 (atI_nat (j := 0) rfl) ?_
  walk_at "wh"
  by_cases hf : w0 = "flow"
  · have nn : ¬ w0 = "number" := fun z => ne_fn (z.symm.trans hf)
    rw [hf, hasW_flow] at no yes
    unfold okS at no yes
    rw [if_pos rfl] at no yes
    rw [decide_eq_true hf]
    refine br_T ?_
    refine lenL_rd k4 ?_
    rw [List.length_map]
    refine br_dec (fun h4 => ?_) (fun h4 => ?_)
    rotate_left
    · walk_at "wh"
      refine br_F ?_
      refine ixL_rd (v := .str w0) hw4 (atI_nat (j := 0) rfl) ?_
      walk_at "wh"
      rw [decide_eq_false nn]
      first | refine br_not (br_F ?_) | refine br_T ?_
      refine br_T ?_
      walk_at "wh"
      exact no (by rw [decide_eq_false h4]; rfl) H4 (Same.refl _)
    refine newL_rd (fun l5 H5 g5 s5 k5 => ?_)
    refine eqX_rd (eqNil (s5 _ _ T4.tab.out) k5) ?_
    rw [map_nil_iff]
    have T5 := T4.same s5
    have k45 := s5 _ _ k4
    have q2n : (qs = []) ↔ ss.2 = [] := by
      constructor
      · intro z; rw [z] at tl2; exact List.length_eq_zero_iff.mp tl2.symm
      · intro z; rw [z] at tl2; exact List.length_eq_zero_iff.mp tl2
    refine br_dec (fun h2 => ?_) (fun h2 => ?_)
    rotate_left
    · walk_at "wh"
      refine ixL_rd (v := .str w0) (s5 _ _ hw4) (atI_nat (j := 0) rfl) ?_
      walk_at "wh"
      rw [decide_eq_false nn]
      first | refine br_not (br_F ?_) | refine br_T ?_
      refine br_T ?_
      walk_at "wh"
      exact no (Bool.and_eq_false_iff.mpr (.inr (decide_eq_false (fun z => h2 (q2n.mpr z.1))))) H5 s5
    have h2' := q2n.mp h2
    obtain ⟨z0, z1, z2, z3, rfl⟩ : ∃ a b c d, zs = [a, b, c, d] := by
      match zs, (show zs.length = 4 by walk_at "om") with
      | [a, b, c, d], _ => exact ⟨a, b, c, d, rfl⟩
    rw [decide_eq_true h4, Bool.true_and] at no yes
    have no : ¬ (0 ≤ z0 ∧ (z0 = (ss.1.length : Int) - 1 ∨ z0 = ss.1.length)) → ∀ J, Same H4 J → Q (.bl false) J := fun e => no (decide_eq_false fun z => e z.2)
    have yes : 0 ≤ z0 ∧ (z0 = (ss.1.length : Int) - 1 ∨ z0 = ss.1.length) → ∀ rs' qs' J, StT H0 J L1 L2 rs' qs' (snocL ss.1 z0 (z1, z2, z3), ss.2) → Q (.bl true) J := fun e rs' qs' J TJ => yes (decide_eq_true ⟨h2', e⟩) rs' qs' J (by unfold pushS; rw [if_pos rfl]; exact TJ)
    refine ixL_rd (v := .int z0) k45 (atI_nat (j := 0) rfl) ?_
    refine br_dec (fun hz0 => ?_) (fun hz0 => ?_)
    · walk_at "wh"
      refine br_T ?_
      walk_at "wh"
      exact no (fun z => by walk_at "om") H5 s5
    refine ixL_rd (v := .int z0) k45 (atI_nat (j := 0) rfl) ?_
    refine lenL_rd T5.stm.out ?_
    refine lenL_rd T5.stm.out ?_
    rw [List.length_map, tl1]
    refine newT_rd (fun t6 H6 g6 s6 k6 => ?_)
    refine notInT_rd (SqT.of k6) rfl rfl ?_
    rw [inV_two]
    have T6 := T5.same s6
    have k46 := s6 _ _ k45
    by_cases hk : z0 = (ss.1.length : Int) - 1 ∨ z0 = ss.1.length
    rotate_left
    · rw [← Bool.decide_or, decide_eq_false hk]
      refine br_T ?_
      walk_at "wh"
      exact no (fun z => hk z.2) H6 (s5.trans s6)
    rw [← Bool.decide_or, decide_eq_true hk]
    refine br_F ?_
    have yes := yes ⟨by walk_at "om", hk⟩
    walk_at "wh"
    refine cut_id ?_
    refine ixL_rd (v := .int z0) k46 (atI_nat (j := 0) rfl) ?_
    refine lenL_rd T6.stm.out ?_
    rw [List.length_map, tl1]
    refine br_dec (fun he => ?_) (fun he => ?_)
    · walk_at "wh"
      refine lst_is T6.stm.out ?_
      refine newL_rd (fun q7 H7 g7 s7 k7 => ?_)
      have T7 := T6.same s7
      have nL1 : q7 ≠ L1 := Ne.symm (ne_of_none T6.stm.out g7)
      refine app_rd T7.stm.out (by rw [List.length_map, sizeLine_eq]; omega) (fun H8 c8 k8 => ?_)
      have k78 := c8 _ _ nL1 k7
      refine ixL_rd (v := .ref q7) k8 (at_last (n := rs.length) (by rw [List.length_append, List.length_map]; rfl) (by rw [List.getElem?_append_right (by rw [List.length_map]; exact Nat.le_refl _), List.length_map, Nat.sub_self]; rfl)) ?_
      refine lst_is k78 ?_
      have k48 : H8 p4 = some (.lst ([z0, z1, z2, z3].map V.int)) := c8 _ _ (fun e => by have := T4.fr L1 (by simp); have h := T.sm; rw [e] at g4; rw [(s1.trans s2) _ _ T.stm.out] at g4; cases g4) (s7 _ _ k46)
      refine slL_rd (SqL.of k48) (fun l9 H9 g9 s9 k9 => ?_)
      rw [cut_drop (by decide)] at k9
      refine tupL_rd (SqL.of k9) (fun t10 H10 g10 s10 k10 => ?_)
      have k10 : H10 t10 = some (.tup [.int z1, .int z2, .int z3]) := k10
      have s810 := s9.trans s10
      refine app_rd (s810 _ _ k78) (by rw [sizeLine_eq]; simp) (fun H11 c11 k11 => ?_)
      walk_at "wh"
      have nt : t10 ≠ q7 := fun e => by rw [e, s810 _ _ k78] at k10; cases k10
      refine yes (rs ++ [(q7, [t10])]) qs H11 ?_
      have e : snocL ss.1 z0 (z1, z2, z3) = ss.1 ++ [[(z1, z2, z3)]] := by unfold snocL; rw [if_pos he]
      rw [e]
      refine T6.newF g7 (fun b o n hb => ?_) (c11 _ _ (Ne.symm nL1) (s810 _ _ k8)) k11 (c11 _ _ nt k10)
      exact c11 _ _ (ne_of_none hb g7) (s810 _ _ (c8 _ _ n (s7 _ _ hb)))
    · have hne : ss.1 ≠ [] := fun z => by rw [z, List.length_nil] at hk he; omega
      obtain ⟨as, ys, eys⟩ := snoc_of hne
      have hrn : rs ≠ [] := fun z => by rw [z, eys] at tl1; simp at tl1
      obtain ⟨ra, ⟨w, bs⟩, era⟩ := snoc_of hrn
      subst era
      obtain ⟨s1', s2'⟩ := ss
      have eys : s1' = as ++ [ys] := eys
      subst eys
      have ral : ra.length = as.length := by
        have tl1 : (ra ++ [(w, bs)]).length = (as ++ [ys]).length := tl1
        simpa using tl1
      have RW : RwX H6 w bs ys := T6.stm.row ra.length (w, bs) ys (by rw [List.getElem?_append_right (Nat.le_refl _), Nat.sub_self]; rfl) (by show (as ++ [ys])[ra.length]? = _; rw [List.getElem?_append_right (by walk_at "om"), ral, Nat.sub_self]; rfl)
      have yl : ys.length ≤ 200000 := by have := fm2 ys (by simp); omega
      have bl := RW.len
      refine ixL_rd (v := .ref w) T6.stm.out (at_last (n := ra.length) (by rw [List.length_map, List.length_append]; rfl) (by rw [List.getElem?_map, List.getElem?_append_right (Nat.le_refl _), Nat.sub_self]; rfl)) ?_
      refine lst_is RW.out ?_
      refine slL_rd (SqL.of k46) (fun l9 H9 g9 s9 k9 => ?_)
      rw [cut_drop (by decide)] at k9
      refine tupL_rd (SqL.of k9) (fun t10 H10 g10 s10 k10 => ?_)
      have k10 : H10 t10 = some (.tup [.int z1, .int z2, .int z3]) := k10
      have s610 := s9.trans s10
      refine app_rd (s610 _ _ RW.out) (by rw [List.length_map, sizeLine_eq]; omega) (fun H11 c11 k11 => ?_)
      walk_at "wh"
      have nt : t10 ≠ w := fun e => by rw [e, s610 _ _ RW.out] at k10; cases k10
      refine yes (ra ++ [(w, bs ++ [t10])]) qs H11 ?_
      have e : snocL (as ++ [ys]) z0 (z1, z2, z3) = as ++ [ys ++ [(z1, z2, z3)]] := by unfold snocL; rw [if_neg he, List.dropLast_concat, List.getLastD_concat]
      rw [show ((as ++ [ys], s2').1 : List (List F3)) = as ++ [ys] from rfl, e]
      exact T6.addF (fun b o n hb => c11 _ _ n (s610 _ _ hb)) k11 (c11 _ _ nt k10)
  · rw [decide_eq_false hf]
    refine br_F ?_
    refine br_F ?_
    refine ixL_rd (v := .str w0) hw4 (atI_nat (j := 0) rfl) ?_
    walk_at "wh"
    by_cases hn : w0 = "number"
    rotate_left
    · rw [decide_eq_false hn]
      first | refine br_not (br_F ?_) | refine br_T ?_
      refine br_T ?_
      walk_at "wh"
      refine no ?_ H4 (Same.refl _)
      unfold okS
      rw [if_neg hf, decide_eq_false (fun z => hn z.1), Bool.and_false]
    rw [hn, hasW_number] at no yes
    unfold okS at no yes
    rw [if_neg ne_fn] at no yes
    rw [decide_eq_true hn]
    first | refine br_not (br_T ?_) | refine br_F ?_
    refine lenL_rd k4 ?_
    rw [List.length_map]
    refine br_not (br_dec (fun h3 => ?_) (fun h3 => ?_))
    rotate_left
    · walk_at "wh"
      refine br_T ?_
      walk_at "wh"
      exact no (Bool.and_eq_false_iff.mpr (.inl (decide_eq_false h3))) H4 (Same.refl _)
    obtain ⟨z0, z1, z2, rfl⟩ : ∃ a b c, zs = [a, b, c] := by
      match zs, (show zs.length = 3 by walk_at "om") with
      | [a, b, c], _ => exact ⟨a, b, c, rfl⟩
    rw [decide_eq_true h3, Bool.true_and] at no yes
    have no : ¬ (0 ≤ z0 ∧ ((z0 = ss.2.length ∧ z1 = 0) ∨ (z0 = (ss.2.length : Int) - 1 ∧ z1 = lastN ss))) → ∀ J, Same H4 J → Q (.bl false) J := fun e => no (decide_eq_false fun z => e z.2)
    have yes : 0 ≤ z0 ∧ ((z0 = ss.2.length ∧ z1 = 0) ∨ (z0 = (ss.2.length : Int) - 1 ∧ z1 = lastN ss)) → ∀ rs' qs' J, StT H0 J L1 L2 rs' qs' (ss.1, snocL ss.2 z0 z2) → Q (.bl true) J := fun e rs' qs' J TJ => yes (decide_eq_true ⟨rfl, e⟩) rs' qs' J (by unfold pushS; rw [if_neg ne_fn]; exact TJ)
    refine ixL_rd (v := .int z0) k4 (atI_nat (j := 0) rfl) ?_
    refine br_dec (fun hz0 => ?_) (fun hz0 => ?_)
    · walk_at "wh"
      exact no (fun z => by walk_at "om") H4 (Same.refl _)
    refine ixL_rd (v := .int z0) k4 (atI_nat (j := 0) rfl) ?_
    refine lenL_rd T4.tab.out ?_
    rw [List.length_map, tl2]
    walk_at "wh"
    by_cases he : z0 = ss.2.length
    · have nl1 : ¬ z0 = (ss.2.length : Int) - 1 := by walk_at "om"
      rw [decide_eq_true he]
      refine br_T ?_
      refine ixL_rd (v := .int z1) k4 (atI_nat (j := 1) rfl) ?_
      refine br_dec (fun h1 => ?_) (fun h1 => ?_)
      · walk_at "wh"
        refine lst_is T4.tab.out ?_
        refine ixL_rd (v := .int z2) k4 (atI_nat (j := 2) rfl) ?_
        refine newL_rd (fun q7 H7 g7 s7 k7 => ?_)
        have T7 := T4.same s7
        refine app_rd T7.tab.out (by rw [List.length_map, sizeLine_eq]; omega) (fun H8 c8 k8 => ?_)
        walk_at "wh"
        refine yes ⟨by walk_at "om", .inl ⟨he, h1⟩⟩ rs (qs ++ [q7]) H8 ?_
        have e : snocL ss.2 z0 z2 = ss.2 ++ [[z2]] := by unfold snocL; rw [if_pos he]
        rw [e]
        exact T4.newN g7 (fun b o n hb => c8 _ _ n (s7 _ _ hb)) k8 (c8 _ _ (Ne.symm (ne_of_none T4.tab.out g7)) k7)
      · walk_at "wh"
        refine ixL_rd (v := .int z0) k4 (atI_nat (j := 0) rfl) ?_
        refine lenL_rd T4.tab.out ?_
        rw [List.length_map, tl2]
        walk_at "wh"
        rw [decide_eq_false nl1]
        first | refine br_not (br_F ?_) | refine br_T ?_
        refine br_T ?_
        walk_at "wh"
        exact no (fun z => by walk_at "om") H4 (Same.refl _)
    · rw [decide_eq_false he]
      refine br_F ?_
      refine br_F ?_
      refine ixL_rd (v := .int z0) k4 (atI_nat (j := 0) rfl) ?_
      refine lenL_rd T4.tab.out ?_
      rw [List.length_map, tl2]
      walk_at "wh"
      by_cases hl1 : z0 = (ss.2.length : Int) - 1
      rotate_left
      · rw [decide_eq_false hl1]
        first | refine br_not (br_F ?_) | refine br_T ?_
        refine br_T ?_
        walk_at "wh"
        exact no (fun z => by walk_at "om") H4 (Same.refl _)
      rw [decide_eq_true hl1]
      first | refine br_not (br_T ?_) | refine br_F ?_
      have hne : ss.2 ≠ [] := fun z => by rw [z, List.length_nil] at hl1; omega
      obtain ⟨as, ys, eys⟩ := snoc_of hne
      have hrn : qs ≠ [] := fun z => by rw [z, eys] at tl2; simp at tl2
      obtain ⟨ra, w, era⟩ := snoc_of hrn
      subst era
      obtain ⟨s1', s2'⟩ := ss
      have eys : s2' = as ++ [ys] := eys
      subst eys
      have ral : ra.length = as.length := by
        have tl2 : (ra ++ [w]).length = (as ++ [ys]).length := tl2
        simpa using tl2
      have RW : H4 w = some (.lst (ys.map V.int)) := T4.tab.row ra.length w ys (by rw [List.getElem?_append_right (Nat.le_refl _), Nat.sub_self]; rfl) (by show (as ++ [ys])[ra.length]? = _; rw [List.getElem?_append_right (by walk_at "om"), ral, Nat.sub_self]; rfl)
      have ln : lastN (s1', as ++ [ys]) = ys.length := by unfold lastN; rw [List.getLastD_concat]
      rw [ln] at no yes
      have yl : ys.length ≤ 200000 := by have := nm2 ys (by simp); omega
      have ixw : atI ((ra ++ [w]).map V.ref) (-1) = some (.ref w) := at_last (n := ra.length) (by rw [List.length_map, List.length_append]; rfl) (by rw [List.getElem?_map, List.getElem?_append_right (Nat.le_refl _), Nat.sub_self]; rfl)
      refine ixL_rd (v := .int z1) k4 (atI_nat (j := 1) rfl) ?_
      refine ixL_rd (v := .ref w) T4.tab.out ixw ?_
      refine lenL_rd RW ?_
      rw [List.length_map]
      refine br_not (br_dec (fun h1 => ?_) (fun h1 => ?_))
      rotate_left
      · walk_at "wh"
        refine no (fun z => ?_) H4 (Same.refl _)
        rcases z.2 with z | z
        · exact he z.1
        · exact h1 z.2
      refine ixL_rd (v := .ref w) T4.tab.out ixw ?_
      refine lst_is RW ?_
      refine ixL_rd (v := .int z2) k4 (atI_nat (j := 2) rfl) ?_
      refine app_rd RW (by rw [List.length_map, sizeLine_eq]; omega) (fun H8 c8 k8 => ?_)
      walk_at "wh"
      refine yes ⟨by walk_at "om", .inr ⟨hl1, h1⟩⟩ rs (ra ++ [w]) H8 ?_
      have e : snocL (as ++ [ys]) z0 z2 = as ++ [ys ++ [z2]] := by unfold snocL; rw [if_neg he, List.dropLast_concat, List.getLastD_concat]
      rw [show ((s1', as ++ [ys]).2 : List (List Int)) = as ++ [ys] from rfl, e]
      exact T4.addN (fun b o n hb => c8 _ _ n hb) k8
-- @@split
/-! ### what the law finds due -/
theorem goP_split {st : Option Rw → Rw → Bool} : ∀ (xs ys : List Str) (acc : List Rw), goP st (xs ++ ys) acc = match goP st xs acc with
    | .inl k => .inl k
    | .inr rs => goP st ys rs
  | [], ys, acc => rfl
  | x :: xs, ys, acc => by
    rw [List.cons_append, goP_cons, goP_cons]
    cases rowP x with
    | none => rfl
    | some r =>
      dsimp only
      by_cases h : st acc.getLast? r = true
      · rw [if_pos h, if_pos h]
        exact goP_split xs ys (acc ++ [r])
      · rw [if_neg h, if_neg h]
theorem tk_bad {zs : List Str} {i : Nat} {z : Str} {us : List Rw} (go : goP spB (zs.take i) [] = .inr us) (ez : zs[i]? = some z) (h : tkS (stOf us) z = none) : goP spB zs [] = .inl i := by
  have hi := (List.getElem?_eq_some_iff.mp ez).1
  have rl := goP_len go
  rw [List.length_take, List.length_nil] at rl
  rw [goP_take ez go, List.drop_eq_getElem_cons hi, (List.getElem?_eq_some_iff.mp ez).2, goP_cons, show us.length = i by walk_at "om"]
  unfold tkS at h
  rw [(goP_st0 go).2] at h
  cases hr : rowP z with
  | none => rfl
  | some r =>
    rw [hr] at h
    dsimp only at h ⊢
    by_cases hs : spB us.getLast? r = true
    · rw [if_pos hs] at h; cases h
    · rw [if_neg hs]
theorem tk_good {zs : List Str} {i : Nat} {z : Str} {us : List Rw} {s' : St2} (go : goP spB (zs.take i) [] = .inr us) (ez : zs[i]? = some z) (h : tkS (stOf us) z = some s') : ∃ us', goP spB (zs.take (i + 1)) [] = .inr us' ∧ stOf us' = s' := by
  unfold tkS at h
  rw [(goP_st0 go).2] at h
  cases hr : rowP z with
  | none => rw [hr] at h; cases h
  | some r =>
    rw [hr] at h
    dsimp only at h
    by_cases hs : spB us.getLast? r = true
    · rw [if_pos hs] at h
      cases h
      refine ⟨us ++ [r], ?_, by unfold stOf; rw [List.foldl_append]; rfl⟩
      rw [List.take_succ, ez]
      exact goP_snoc go hr hs
    · rw [if_neg hs] at h; cases h
theorem resP_eq {x y : Str} {xs : List Str} (el : linesS x = xs ++ [y]) : resP x = match goP spB xs [] with
    | .inl k => .inl k
    | .inr rs => if y = ⟨#[]⟩ then (if (stOf rs).1.isEmpty || (stOf rs).2.isEmpty then .inl rs.length else .inr (stOf rs)) else .inl rs.length := by
  unfold resP rowsP
  rw [el, List.dropLast_concat, List.getLastD_concat]
  cases goP spB xs [] with
  | inl k => rfl
  | inr rs =>
    dsimp only
    by_cases hy : y = ⟨#[]⟩
    · rw [if_pos hy, if_pos hy]
    · rw [if_neg hy, if_neg hy]
def LongP (x : Str) : Prop := x.length ≤ 100000
@[irreducible] def sp__law_due_of : Sp := fun vs H Q _ => ∃ (x : Str), vs = [.str x] ∧ LongP x ∧ (∀ k : Nat, resP x = .inl k → ∀ H', Same H H' → Q (.int k) H') ∧ ∀ s, resP x = .inr s → ∀ p st tb rs qs H', Same H H' → PpX H' p st tb rs s.1 qs s.2 → Q (.ref p) H'
theorem due_of_rd {H : Hp} {x : Str} {Q : VK} {E : XK} (h : LongP x) (q1 : ∀ k : Nat, resP x = .inl k → ∀ H', Same H H' → Q (.int k) H') (q2 : ∀ s, resP x = .inr s → ∀ p st tb rs qs H', Same H H' → PpX H' p st tb rs s.1 qs s.2 → Q (.ref p) H') : sp__law_due_of [.str x] H Q E := by
  unfold sp__law_due_of; exact ⟨x, rfl, h, q1, q2⟩
theorem str_nilE {y : Str} : (y = Str.ofString "") ↔ y = ⟨#[]⟩ := ⟨fun h => h.trans (by decide +kernel), fun h => h.trans (by decide +kernel)⟩
set_option maxHeartbeats 0 in
theorem ok__law_due_of {f : Addr} {fd : FuncData} (F : Fun K "_law_due_of" "_law_due_of" s__law_due_of f fd) (N : Nm mg) (D__law_took : Def P w K mg base CX0 3 "_law_took" ["_law_stream", "_law_table", "_law_row"] sp__law_took) : FnOk P w K mg base CX0 4 f fd ["_law_text"] sp__law_due_of := by
  refine F.ok sc__law_due_of (fun vs H Q E h => by unfold sp__law_due_of at h; obtain ⟨_, rfl, _⟩ := h; rfl) (fun cdv A outer s H vs Q E hr h => ?_)
  unfold sp__law_due_of at h
  obtain ⟨x, rfl, hx, q1, q2⟩ := h
  have hx : x.length ≤ 100000 := hx
  have hu := hu40 hr
  obtain ⟨xs, y, el⟩ := lines_snoc x
  have ll := lines_le x
  rw [el, List.length_append, List.length_singleton] at ll
  have sh : ∀ w ∈ xs ++ [y], w.length ≤ 1000000 := fun w hw => Nat.le_trans (line_short (by rw [el]; exact hw)) (by walk_at "om")
  have re := resP_eq el
  refine ⟨_, (pss_cons (psS (i := 1) sc__law_due_of.nd (peM_split (K := K) rfl (pq 0) (pa_cons pe_str pa_nil)))
      (pss_cons (psS (i := 2) sc__law_due_of.nd (peM_pop (K := K) rfl (pq 1)))
      (pss_cons (psS (i := 3) sc__law_due_of.nd (peC (oNeXK (K := K) rfl (by exact hu)) (pq 2) pe_str))
      (pss_cons (psCut (psIf (ptV (pq 3)) (pss_one (ps_expr (peM_append (pq 1) (pa_cons (pq 2) pa_nil)))) pss_nil))
      (pss_cons (psS (i := 4) sc__law_due_of.nd (peLst pa_nil))
      (pss_cons (psS (i := 5) sc__law_due_of.nd (peLst pa_nil))
      (pss_cons (psFor PassesOwn.never rfl (piEnumK (K := K) rfl N.enumerate_ (pa_cons (pq 1) pa_nil)) (pgAnyK (K := K) (n := 2) rfl rfl (pgsCons (pg_name (i := 6) sc__law_due_of.nd rfl (by first | exact Or.inl rfl | exact Or.inr rfl)) (pgsCons (pg_name (i := 7) sc__law_due_of.nd rfl (by first | exact Or.inl rfl | exact Or.inr rfl)) pgsNil))) (pss_one (psIf (pt_not (ptV (pD D__law_took hr pass0 (pa_cons (pq 4) (pa_cons (pq 5) (pa_cons (pq 7) pa_nil)))))) (pss_one (ps_ret (pq 6))) pss_nil)))
      (pss_cons (psIf (ptV (pq 3)) (pss_one (ps_ret (pe_op oSub (pB (cLenK (K := K) rfl) N.len_ bt_len (pa_cons (pq 1) pa_nil)) pe_int))) pss_nil)
      (pss_cons (psIf (ptW (pwOr (ptC (oEqXK (K := K) rfl (by exact hu)) (pq 4) (peLst pa_nil)) (pw_or1 (ptC (oEqXK (K := K) rfl (by exact hu)) (pq 5) (peLst pa_nil))))) (pss_one (ps_ret (pB (cLenK (K := K) rfl) N.len_ bt_len (pa_cons (pq 1) pa_nil)))) pss_nil)
      (pss_one (ps_ret (peTup (pa_cons (pq 4) (pa_cons (pq 5) pa_nil)))))))))))))), ?_⟩
  refine split_rd (by decide +kernel) (by rw [sizeLine_eq]; omega) (fun lr H1 g1 s1 k1 => ?_)
  rw [show Txt.split x (Str.ofString "\n") = xs ++ [y] from el, List.map_append] at k1
  have k1 : H1 lr = some (.lst (xs.map V.str ++ [.str y])) := k1
  refine lst_is k1 ?_
  refine pop_rd k1 (y := .str y) (by rw [List.length_append, List.length_map, List.length_singleton, Nat.add_sub_cancel, List.getElem?_append_right (by rw [List.length_map]; exact Nat.le_refl _), List.length_map, Nat.sub_self]; rfl) (fun H2 c2 k2 => ?_)
  rw [List.dropLast_concat] at k2
  have s02 : Same H H2 := s1.chg g1 c2
  walk_at "wh"
  rw [show decide (y = Str.ofString "") = decide (y = ⟨#[]⟩) from decide_eq_decide.mpr str_nilE]
  obtain ⟨zs, ez⟩ : ∃ zs, zs = xs ++ if y = ⟨#[]⟩ then [] else [y] := ⟨_, rfl⟩
  refine cut_rd (fun σ J => σ = [some (.str x), some (.ref lr), some (.str y), some (.bl (!decide (y = ⟨#[]⟩))), none, none, none, none] ∧ Same H J ∧ J lr = some (.lst (zs.map V.str))) ?_ ?_
  · by_cases hy : y = ⟨#[]⟩
    · rw [if_pos hy, List.append_nil] at ez
      rw [decide_eq_true hy]
      refine br_F ?_
      walk_at "wh"
      exact ⟨rfl, s02, by rw [ez]; exact k2⟩
    · rw [if_neg hy] at ez
      rw [decide_eq_false hy]
      refine br_T ?_
      refine lst_is k2 ?_
      refine app_rd k2 (by rw [List.length_map, sizeLine_eq]; omega) (fun H3 c3 k3 => ?_)
      walk_at "wh"
      exact ⟨rfl, s02.chg g1 c3, by rw [ez, List.map_append]; exact k3⟩
  rintro σ J ⟨rfl, sJ, kJ⟩
  have zl : zs.length ≤ xs.length + 1 := by rw [ez, List.length_append]; split <;> simp
  have zsh : ∀ z ∈ zs, z.length ≤ 1000000 := fun z hz => sh z (by
    rw [ez] at hz
    rcases List.mem_append.mp hz with hz | hz
    · exact List.mem_append_left _ hz
    · split at hz
      · cases hz
      · exact List.mem_append_right _ hz)
  refine newL_rd (fun L1 H4 g4 s4 k4 => ?_)
  refine newL_rd (fun L2 H5 g5 s5 k5 => ?_)
  have n12 : L1 ≠ L2 := ne_of_none k4 g5
  have T5 : StT J H5 L1 L2 [] [] (stOf []) := ⟨⟨s5 _ _ k4, rfl, fun i r xs e => by simp at e⟩, ⟨k5, rfl, fun i r xs e => by simp at e⟩, by simp [n12], fun a ha => by
    simp only [List.map_nil, List.cons_append, List.nil_append, List.mem_cons, List.not_mem_nil, or_false] at ha
    rcases ha with rfl | rfl
    · exact g4
    · exact s4.free g5, s4.trans s5⟩
  have bad : ∀ i : Nat, goP spB zs [] = .inl i → ∀ I, Same J I → Q (.int i) I := fun i hi I sI => by
    refine q1 i ?_ I (sJ.trans sI)
    rw [re]
    rw [ez, goP_split] at hi
    cases hg : goP spB xs [] with
    | inl k => rw [hg] at hi; cases hi; rfl
    | inr rs =>
      rw [hg] at hi
      dsimp only at hi ⊢
      by_cases hy : y = ⟨#[]⟩
      · rw [if_pos hy] at hi; cases hi
      · rw [if_neg hy] at hi ⊢
        rw [goP_cons] at hi
        have : (.inl rs.length : Nat ⊕ List Rw) = .inl i := by
          cases hr : rowP y with
          | none => rw [hr] at hi; exact hi
          | some r =>
            rw [hr] at hi
            dsimp only at hi
            split at hi
            · cases hi
            · exact hi
        cases this
        rfl
  refine enum_rd ((s4.trans s5) _ _ kJ) ?_
  refine loop_enum (xs := zs.map V.str) (fun i σ I => ∃ (y6 y7 : Option V) (rs : List (Addr × List Addr)) (qs : List Addr) (us : List Rw), σ = [some (.str x), some (.ref lr), some (.str y), some (.bl (!decide (y = ⟨#[]⟩))), some (.ref L1), some (.ref L2), y6, y7] ∧ goP spB (zs.take i) [] = .inr us ∧ StT J I L1 L2 rs qs (stOf us)) ?_ ?_ ?_ ?_
  · exact ⟨_, _, [], [], [], rfl, rfl, T5⟩
  · rintro i σ I _ ⟨_, _, _, _, _, _, _, T⟩
    exact SqL.of (T.sm _ _ kJ)
  · rintro i yy σ I e I' hy ⟨y6, y7, rs, qs, us, rfl, go, T⟩ fe sE he
    rw [List.getElem?_map] at hy
    obtain ⟨z, ez', rfl⟩ := Option.map_eq_some_iff.mp hy
    obtain ⟨gs, grs⟩ := goP_st0 go
    have rl := goP_len go
    rw [List.length_take, List.length_nil] at rl
    have T' := T.same sE
    refine unpT_rd he ?_
    refine took_rd T' gs (by rw [grs]; omega) (zsh z (List.mem_of_getElem? ez')) (fun hn I2 s2 => ?_) (fun s' hs rs' qs' I2 T2 => ?_)
    · walk_at "wh"
      refine br_T ?_
      walk_at "wh"
      exact bad i (tk_bad go ez' hn) I2 ((T'.same s2).sm)
    · obtain ⟨us', go', rfl⟩ := tk_good go ez' hs
      refine br_F ?_
      walk_at "wh"
      exact ⟨_, _, rs', qs', us', rfl, go', T2⟩
  · rintro σ I ⟨y6, y7, rs, qs, us, rfl, go, T⟩
    rw [List.length_map, List.take_length] at go
    have rl := goP_len go
    rw [List.length_nil, Nat.zero_add] at rl
    have kI := T.sm _ _ kJ
    have sI := sJ.trans T.sm
    walk_at "wh"
    by_cases hy : y = ⟨#[]⟩
    · rw [if_pos hy, List.append_nil] at ez
      subst ez
      rw [go] at re
      dsimp only at re
      rw [if_pos hy] at re
      rw [decide_eq_true hy]
      have tl1 := T.stm.len
      have tl2 := T.tab.len
      have full : (rs.map fun r => V.ref r.1) = [] ↔ (stOf us).1 = [] := by
        rw [List.map_eq_nil_iff, ← List.length_eq_zero_iff, ← List.length_eq_zero_iff, tl1]
      have full2 : (qs.map V.ref) = [] ↔ (stOf us).2 = [] := by
        rw [List.map_eq_nil_iff, ← List.length_eq_zero_iff, ← List.length_eq_zero_iff, tl2]
      refine br_F ?_
      refine newL_rd (fun l6 H6 g6 s6 k6 => ?_)
      refine eqX_rd (eqNil (s6 _ _ T.stm.out) k6) ?_
      refine br_dec (fun h1 => ?_) (fun h1 => ?_)
      · walk_at "wh"
        refine br_T ?_
        refine lenL_rd (s6 _ _ kI) ?_
        rw [List.length_map, ← rl]
        walk_at "wh"
        refine q1 us.length ?_ H6 (sI.trans s6)
        rw [re, full.mp h1]
        rfl
      refine newL_rd (fun l7 H7 g7 s7 k7 => ?_)
      refine eqX_rd (eqNil ((s6.trans s7) _ _ T.tab.out) k7) ?_
      refine br_dec (fun h2 => ?_) (fun h2 => ?_)
      · walk_at "wh"
        refine lenL_rd ((s6.trans s7) _ _ kI) ?_
        rw [List.length_map, ← rl]
        walk_at "wh"
        refine q1 us.length ?_ H7 (sI.trans (s6.trans s7))
        rw [re, full2.mp h2, show ([] : List (List Int)).isEmpty = true from rfl, Bool.or_true]
        rfl
      refine newT_rd (fun p H8 g8 s8 k8 => ?_)
      walk_at "wh"
      have s68 := (s6.trans s7).trans s8
      refine q2 (stOf us) ?_ p L1 L2 rs qs H8 (sI.trans s68) ⟨k8, T.stm.same s68, T.tab.same s68⟩
      have e1 : (stOf us).1.isEmpty = false := Bool.eq_false_iff.mpr fun z => h1 (full.mpr (List.isEmpty_iff.mp z))
      have e2 : (stOf us).2.isEmpty = false := Bool.eq_false_iff.mpr fun z => h2 (full2.mpr (List.isEmpty_iff.mp z))
      rw [re, e1, e2]
      rfl
    · rw [if_neg hy] at ez
      rw [decide_eq_false hy]
      refine br_T ?_
      refine lenL_rd kI ?_
      rw [List.length_map]
      walk_at "wh"
      have zl : zs.length = xs.length + 1 := by rw [ez, List.length_append, List.length_singleton]
      rw [zl, show ((xs.length + 1 : Nat) : Int) - 1 = (xs.length : Int) by walk_at "om"]
      refine q1 xs.length ?_ I sI
      rw [re]
      rw [ez, goP_split] at go
      cases hg : goP spB xs [] with
      | inl k => rw [hg] at go; cases go
      | inr rs' =>
        have := goP_len hg
        dsimp only
        rw [if_neg hy, this]
        simp
-- @@split
/-- a caught exception of the class D -/
def ExT (H : Hp) (e D : Addr) : Prop := H e = some (excO e (.ref D) none) ∨ ∃ d fs, H e = some (excO e (.ref D) (some d)) ∧ H d = some (.xd fs)
theorem ExT.same {H H' : Hp} {e D : Addr} (x : ExT H e D) (s : Same H H') : ExT H' e D := by
  rcases x with x | ⟨d, fs, x, y⟩
  · exact .inl (s _ _ x)
  · exact .inr ⟨d, fs, s _ _ x, s _ _ y⟩
theorem isiA_rd {K : PySem.W.Frag} {H : Hp} {Q : VK} {e D C : Addr} {b : Bool} (x : ExT H e D) (h2 : ExcK K D) (h3 : (PySem.W.clsIn K D).isSome = true) (k : PySem.W.kitOne K (.ref D) (.ref C) = some b) (q : Q (.bl b) H) : rIsiD K (.ref e) (.ref C) H Q := by
  rcases x with x | ⟨d, fs, x, y⟩
  · exact isiD_of (isiE_rd x h2 h3 k q)
  · exact isiDE_rd x y h2 h3 k q
theorem isiAT_rd {K : PySem.W.Frag} {H : Hp} {Q : VK} {e D : Addr} {n : String} {b : Bool} (x : ExT H e D) (h2 : ExcK K D) (h3 : (PySem.W.clsIn K D).isSome = true) (k : PySem.W.kitOne K (.ref D) (.type n) = some b) (q : Q (.bl b) H) : rIsiD K (.ref e) (.ty n) H Q := by
  rcases x with x | ⟨d, fs, x, y⟩
  · exact isiD_of (isiET_rd x h2 h3 k q)
  · exact isiDT_rd x y h2 h3 k q
@[irreducible] def sp__law_kind_of (a_NoText : Addr) : Sp := fun vs H Q _ => ∃ (e D : Addr) (name : Str), vs = [.ref e] ∧ ExT H e D ∧ ((D = a_NoText ∧ name = "text")) ∧ ∀ H', Same H H' → Q (.str name) H'
theorem kind_NoText_rd {a_NoText : Addr} {H : Hp} {e : Addr} {Q : VK} {E : XK} (h : ExT H e a_NoText) (q : ∀ H', Same H H' → Q (.str "text") H') : sp__law_kind_of a_NoText [.ref e] H Q E := by unfold sp__law_kind_of; exact ⟨e, a_NoText, "text", rfl, h, ⟨rfl, rfl⟩, q⟩
theorem ok__law_kind_of {f : Addr} {fd : FuncData} (F : Fun K "_law_kind_of" "_law_kind_of" s__law_kind_of f fd) (N : Nm mg) (Z : Cz K mg base a_HostError a_NoBattle a_NoPlan a_NoMix a_NoStream a_NoSide a_NoAlike a_NoNumber a_TooGreat a_NoEven a_NoText a_NoRow a_NoName a_NoPlace i_NoText) : FnOk P w K mg base CX0 1 f fd ["_law_caught"] (sp__law_kind_of a_NoText) := by
  refine F.ok sc__law_kind_of (fun vs H Q E h => by unfold sp__law_kind_of at h; obtain ⟨_, _, _, rfl, _⟩ := h; rfl) (fun cdv A outer s H vs Q E hr h => ?_)
  unfold sp__law_kind_of at h
  obtain ⟨e, D, name, rfl, he, hD, q⟩ := h
  have hu := hu40 hr
  obtain ⟨b0, b1, b2, b3, b4, b5, b6, b7, b8, b9, b10, b11, b12, kK, kC, kH, kV, k0, k1, k2, k3, k4, k5, k6, k7, k8, k9, k10, k11, k12, hv⟩ : ∃ b0 b1 b2 b3 b4 b5 b6 b7 b8 b9 b10 b11 b12 : Bool, ExcK K D ∧ (PySem.W.clsIn K D).isSome = true ∧ PySem.W.kitOne K (.ref D) (.ref a_HostError) = some true ∧ PySem.W.kitOne K (.ref D) (.type "ValueError") = some true ∧ PySem.W.kitOne K (.ref D) (.ref a_NoBattle) = some b0 ∧ PySem.W.kitOne K (.ref D) (.ref a_NoPlan) = some b1 ∧ PySem.W.kitOne K (.ref D) (.ref a_NoMix) = some b2 ∧ PySem.W.kitOne K (.ref D) (.ref a_NoStream) = some b3 ∧ PySem.W.kitOne K (.ref D) (.ref a_NoSide) = some b4 ∧ PySem.W.kitOne K (.ref D) (.ref a_NoAlike) = some b5 ∧ PySem.W.kitOne K (.ref D) (.ref a_NoNumber) = some b6 ∧ PySem.W.kitOne K (.ref D) (.ref a_TooGreat) = some b7 ∧ PySem.W.kitOne K (.ref D) (.ref a_NoEven) = some b8 ∧ PySem.W.kitOne K (.ref D) (.ref a_NoText) = some b9 ∧ PySem.W.kitOne K (.ref D) (.ref a_NoRow) = some b10 ∧ PySem.W.kitOne K (.ref D) (.ref a_NoName) = some b11 ∧ PySem.W.kitOne K (.ref D) (.ref a_NoPlace) = some b12 ∧ (([b0, b1, b2, b3, b4, b5, b6, b7, b8, b9, b10, b11, b12] = [false, false, false, false, false, false, false, false, false, true, false, false, false] ∧ name = "text")) := by
    obtain ⟨rfl, rfl⟩ := hD
    · exact ⟨_, _, _, _, _, _, _, _, _, _, _, _, _, Z.k_NoText, Z.c_NoText, Z.i_NoText_HostError, Z.v_NoText, Z.i_NoText_NoBattle, Z.i_NoText_NoPlan, Z.i_NoText_NoMix, Z.i_NoText_NoStream, Z.i_NoText_NoSide, Z.i_NoText_NoAlike, Z.i_NoText_NoNumber, Z.i_NoText_TooGreat, Z.i_NoText_NoEven, Z.i_NoText_NoText, Z.i_NoText_NoRow, Z.i_NoText_NoName, Z.i_NoText_NoPlace, ⟨rfl, rfl⟩⟩
  refine ⟨_, (pssTo (pssI_cons (psOf (psS (i := 1) sc__law_kind_of.nd (peLst (pa_cons (pB (cIsiD (K := K) rfl) N.isinstance_ bt_isinstance (pa_cons (pq 0) (pa_cons (pe_glob (v := .ref a_NoBattle) rfl Z.g_NoBattle rfl) pa_nil))) (pa_cons (pB (cIsiD (K := K) rfl) N.isinstance_ bt_isinstance (pa_cons (pq 0) (pa_cons (pe_glob (v := .ref a_NoPlan) rfl Z.g_NoPlan rfl) pa_nil))) (pa_cons (pB (cIsiD (K := K) rfl) N.isinstance_ bt_isinstance (pa_cons (pq 0) (pa_cons (pe_glob (v := .ref a_NoMix) rfl Z.g_NoMix rfl) pa_nil))) pa_nil))))))
      (pssI_cons (psOf (psS (i := 1) sc__law_kind_of.nd (pe_op oAdd (pq 1) (peLst (pa_cons (pB (cIsiD (K := K) rfl) N.isinstance_ bt_isinstance (pa_cons (pq 0) (pa_cons (pe_glob (v := .ref a_NoStream) rfl Z.g_NoStream rfl) pa_nil))) (pa_cons (pB (cIsiD (K := K) rfl) N.isinstance_ bt_isinstance (pa_cons (pq 0) (pa_cons (pe_glob (v := .ref a_NoSide) rfl Z.g_NoSide rfl) pa_nil))) (pa_cons (pB (cIsiD (K := K) rfl) N.isinstance_ bt_isinstance (pa_cons (pq 0) (pa_cons (pe_glob (v := .ref a_NoAlike) rfl Z.g_NoAlike rfl) pa_nil))) pa_nil)))))))
      (pssI_cons (psOf (psS (i := 1) sc__law_kind_of.nd (pe_op oAdd (pq 1) (peLst (pa_cons (pB (cIsiD (K := K) rfl) N.isinstance_ bt_isinstance (pa_cons (pq 0) (pa_cons (pe_glob (v := .ref a_NoNumber) rfl Z.g_NoNumber rfl) pa_nil))) (pa_cons (pB (cIsiD (K := K) rfl) N.isinstance_ bt_isinstance (pa_cons (pq 0) (pa_cons (pe_glob (v := .ref a_TooGreat) rfl Z.g_TooGreat rfl) pa_nil))) (pa_cons (pB (cIsiD (K := K) rfl) N.isinstance_ bt_isinstance (pa_cons (pq 0) (pa_cons (pe_glob (v := .ref a_NoEven) rfl Z.g_NoEven rfl) pa_nil))) pa_nil)))))))
      (pssI_cons (psOf (psS (i := 1) sc__law_kind_of.nd (pe_op oAdd (pq 1) (peLst (pa_cons (pB (cIsiD (K := K) rfl) N.isinstance_ bt_isinstance (pa_cons (pq 0) (pa_cons (pe_glob (v := .ref a_NoText) rfl Z.g_NoText rfl) pa_nil))) (pa_cons (pB (cIsiD (K := K) rfl) N.isinstance_ bt_isinstance (pa_cons (pq 0) (pa_cons (pe_glob (v := .ref a_NoRow) rfl Z.g_NoRow rfl) pa_nil))) (pa_cons (pB (cIsiD (K := K) rfl) N.isinstance_ bt_isinstance (pa_cons (pq 0) (pa_cons (pe_glob (v := .ref a_NoName) rfl Z.g_NoName rfl) pa_nil))) pa_nil)))))))
      (pssI_cons (psOf (psS (i := 1) sc__law_kind_of.nd (pe_op oAdd (pq 1) (peLst (pa_cons (pB (cIsiD (K := K) rfl) N.isinstance_ bt_isinstance (pa_cons (pq 0) (pa_cons (pe_glob (v := .ref a_NoPlace) rfl Z.g_NoPlace rfl) pa_nil))) pa_nil)))))
      (pssI_cons (psIS (i := 2) sc__law_kind_of.nd (peILst (paI_cons peI_str (paI_cons peI_str (paI_cons peI_str (paI_cons peI_str (paI_cons peI_str (paI_cons peI_str (paI_cons peI_str (paI_cons peI_str (paI_cons peI_str (paI_cons peI_str (paI_cons peI_str (paI_cons peI_str paI_nil))))))))))))))
      (pssI_cons (psOf (psIf (ptC oIs (pq 0) pe_non) (pss_one (ps_ret pe_str)) pss_nil))
      (pssI_cons (psOf (psIf (ptW (pwOr (pt_not (ptV (pB (cIsiD (K := K) rfl) N.isinstance_ bt_isinstance (pa_cons (pq 0) (pa_cons (pe_glob (v := .ref a_HostError) rfl Z.g_HostError rfl) pa_nil))))) (pwOr (pt_not (ptV (pB (cIsiD (K := K) rfl) N.isinstance_ bt_isinstance (pa_cons (pq 0) (pa_cons (pTy N.ValueError_ bt_ValueError) pa_nil))))) (pw_or1 (ptC (oNeK (K := K) rfl (by exact hu)) (peM_count (K := K) rfl (pq 1) (pa_cons pe_bl pa_nil)) pe_int))))) (pss_one (ps_ret pe_str)) pss_nil))
      (pssI_one (psOf (ps_ret (peIxK (K := K) rfl (pe_op oAdd (pq 2) (peLst (pa_cons pe_str pa_nil))) (peM_index (K := K) rfl (pq 1) (pa_cons pe_bl pa_nil))))))))))))))), ?_⟩
  refine isiA_rd he kK kC k0 ?_
  refine isiA_rd he kK kC k1 ?_
  refine isiA_rd he kK kC k2 ?_
  refine newL_rd (fun p1 H1 f1 s1 h1 => ?_)
  have he1 := he.same s1
  refine isiA_rd he1 kK kC k3 ?_
  refine isiA_rd he1 kK kC k4 ?_
  refine isiA_rd he1 kK kC k5 ?_
  refine newL_rd (fun p2 H2 f2 s2 h2 => ?_)
  refine cat_rd (s2 _ _ h1) h2 (by rw [sizeLine_eq]; simp) (fun p3 H3 f3 s3 h3 => ?_)
  have he3 := (he1.same s2).same s3
  refine isiA_rd he3 kK kC k6 ?_
  refine isiA_rd he3 kK kC k7 ?_
  refine isiA_rd he3 kK kC k8 ?_
  refine newL_rd (fun p4 H4 f4 s4 h4 => ?_)
  refine cat_rd (s4 _ _ h3) h4 (by rw [sizeLine_eq]; simp) (fun p5 H5 f5 s5 h5 => ?_)
  have he5 := (he3.same s4).same s5
  refine isiA_rd he5 kK kC k9 ?_
  refine isiA_rd he5 kK kC k10 ?_
  refine isiA_rd he5 kK kC k11 ?_
  refine newL_rd (fun p6 H6 f6 s6 h6 => ?_)
  refine cat_rd (s6 _ _ h5) h6 (by rw [sizeLine_eq]; simp) (fun p7 H7 f7 s7 h7 => ?_)
  have he7 := (he5.same s6).same s7
  refine isiA_rd he7 kK kC k12 ?_
  refine newL_rd (fun p8 H8 f8 s8 h8 => ?_)
  refine cat_rd (s8 _ _ h7) h8 (by rw [sizeLine_eq]; simp) (fun p9 H9 f9 s9 h9 => ?_)
  have h9 : H9 p9 = some (.lst ([b0, b1, b2, b3, b4, b5, b6, b7, b8, b9, b10, b11, b12].map V.bl)) := h9
  refine newL_rd (fun pa Ha fa sa ha => ?_)
  have s09 : Same H Ha := ((((((((s1.trans s2).trans s3).trans s4).trans s5).trans s6).trans s7).trans s8).trans s9).trans sa
  have he9 := he.same s09
  refine br_F ?_
  refine isiA_rd he9 kK kC kH ?_
  refine br_not (br_T ?_)
  refine isiAT_rd he9 kK kC kV ?_
  refine br_not (br_T ?_)
  have h9a := sa _ _ h9
  generalize [b0, b1, b2, b3, b4, b5, b6, b7, b8, b9, b10, b11, b12] = bs at h9a hv
  refine lst_is h9a ?_
  refine cnt_rd h9a rfl (by rcases hv with ⟨rfl, rfl⟩ <;> rfl) ?_
  rw [show ((bs.map V.bl).countP fun y => eqV y (.bl true)) = 1 by rcases hv with ⟨rfl, rfl⟩ <;> rfl]
  refine br_not (br_dT rfl ?_)
  refine newL_rd (fun pb Hb fb sb hb => ?_)
  refine cat_rd (sb _ _ ha) hb (by rw [sizeLine_eq]; simp) (fun pc Hc fc sc hc => ?_)
  have sac := sb.trans sc
  refine lst_is (sac _ _ h9a) ?_
  walk_at "wh"
  obtain ⟨rfl, rfl⟩ := hv
  refine idx_rd 9 (sac _ _ h9a) rfl rfl ⟨_, rfl, rfl⟩ ?_ ?_
  · intro m y hm hy
    match m, hm with
    | 0, _ => cases hy; rfl
    | 1, _ => cases hy; rfl
    | 2, _ => cases hy; rfl
    | 3, _ => cases hy; rfl
    | 4, _ => cases hy; rfl
    | 5, _ => cases hy; rfl
    | 6, _ => cases hy; rfl
    | 7, _ => cases hy; rfl
    | 8, _ => cases hy; rfl
    | m + 9, hm => omega
  refine ixL_rd (v := .str "text") hc (by rfl) ?_
  walk_at "wh"
  exact q _ (s09.trans sac)
/-! ### what the program tells -/
@[irreducible] def sp__law_told_of : Sp := fun vs H Q _ => ∃ (x : Str), vs = [.str x] ∧ LongP x ∧ (∀ k : Nat, resP x = .inl k → ∀ H', Same H H' → Q (.int k) H') ∧ ∀ s, resP x = .inr s → ∀ p st tb rs qs H', Same H H' → PpX H' p st tb rs s.1 qs s.2 → Q (.ref p) H'
theorem told_of_rd {H : Hp} {x : Str} {Q : VK} {E : XK} (h : LongP x) (q1 : ∀ k : Nat, resP x = .inl k → ∀ H', Same H H' → Q (.int k) H') (q2 : ∀ s, resP x = .inr s → ∀ p st tb rs qs H', Same H H' → PpX H' p st tb rs s.1 qs s.2 → Q (.ref p) H') : sp__law_told_of [.str x] H Q E := by
  unfold sp__law_told_of; exact ⟨x, rfl, h, q1, q2⟩
set_option maxHeartbeats 0 in
theorem ok__law_told_of {f : Addr} {fd : FuncData} (F : Fun K "_law_told_of" "_law_told_of" s__law_told_of f fd) (N : Nm mg) (D__law_kind_of : Def P w K mg base CX0 1 "_law_kind_of" ["_law_caught"] (sp__law_kind_of a_NoText)) (D_read_paper : Def P w K mg base (CXR P w) 5 "read_paper" ["text"] (sp_read_paper a_NoText)) (Z : Cz K mg base a_HostError a_NoBattle a_NoPlan a_NoMix a_NoStream a_NoSide a_NoAlike a_NoNumber a_TooGreat a_NoEven a_NoText a_NoRow a_NoName a_NoPlace i_NoText) : FnOk P w K mg base CX0 6 f fd ["_law_text"] sp__law_told_of := by
  refine F.ok sc__law_told_of (fun vs H Q E h => by unfold sp__law_told_of at h; obtain ⟨_, rfl, _⟩ := h; rfl) (fun cdv A outer s H vs Q E hr h => ?_)
  unfold sp__law_told_of at h
  obtain ⟨x, rfl, hx, q1, q2⟩ := h
  have hu := hu40 hr
  refine ⟨_, (pss_cons (psS (i := 1) sc__law_told_of.nd pe_non)
      (pss_cons (psS (i := 2) sc__law_told_of.nd pe_non)
      (pss_cons (psTry (K := K) (ke := 3) (ky := 1) rfl sc__law_told_of.nd Z.g_HostError (psxOne (psxSet (i := 2) sc__law_told_of.nd D_read_paper hr (pa_cons (pq 0) pa_nil))))
      (pss_cons (psIf (ptC oIsX (pq 1) pe_non) (pss_one (ps_ret (pq 2))) pss_nil)
      (pss_cons (psIf (ptW (pwOr (ptC (oNeXK (K := K) rfl (by exact hu)) (pD D__law_kind_of hr pass0 (pa_cons (pq 1) pa_nil)) pe_str) (pw_or1 (ptV (pB (cIsiK (K := K) rfl) N.isinstance_ bt_isinstance (pa_cons (peFldE (K := K) rfl (pq 1)) (pa_cons (pTy N.bool_ bt_bool) pa_nil))))))) (pss_one (ps_ret pe_non)) pss_nil)
      (pss_one (ps_ret (peFldE (K := K) rfl (pq 1))))))))), ?_⟩
  refine read_paper_rd hx (fun s hs p st tb rs qs H1 s1 N1 => ?_) (fun k hk d H0 f0 s0 h0 => catch_rd Z.m_NoText (fun ea H1 f1 s1 h1 => ?_))
  · walk_at "wh"
    first | refine br_T ?_ | refine br_dT rfl ?_
    walk_at "wh"
    exact q2 s hs p st tb rs qs H1 s1 N1.pap
  · have h01 := s1 _ _ h0
    walk_at "wh"
    first | refine br_F ?_ | refine br_dF (fun z => by cases z) ?_
    refine kind_NoText_rd (.inr ⟨d, _, h1, h01⟩) (fun H2 s2 => ?_)
    walk_at "wh"
    first | refine br_F ?_ | refine br_not (br_dT rfl ?_)
    refine fldE_rd (v := .int k) (s2 _ _ h1) (s2 _ _ h01) rfl Z.k_NoText Z.hd_NoText Z.z_NoText.nf ?_
    refine isiI_rd ?_
    refine br_F ?_
    refine fldE_rd (v := .int k) (s2 _ _ h1) (s2 _ _ h01) rfl Z.k_NoText Z.hd_NoText Z.z_NoText.nf ?_
    walk_at "wh"
    exact q1 k hk H2 ((s0.trans s1).trans s2)
-- @@split
@[irreducible] def sp__law_stirred : Sp := fun vs H Q _ => ∃ n k : Int, vs = [.int n, .int k] ∧ 0 ≤ n ∧ n < 2147483629 ∧ 0 ≤ k ∧ k ≤ 10000000 ∧ ∀ r : Int, 0 ≤ r → r < 2147483587 → Q (.int r) H
theorem stirred_rd {H : Hp} {n k : Int} {Q : VK} {E : XK} (h0 : 0 ≤ n) (h1 : n < 2147483629) (h2 : 0 ≤ k) (h3 : k ≤ 10000000) (q : ∀ r : Int, 0 ≤ r → r < 2147483587 → Q (.int r) H) : sp__law_stirred [.int n, .int k] H Q E := by
  unfold sp__law_stirred; exact ⟨n, k, rfl, h0, h1, h2, h3, q⟩
theorem ok__law_stirred {f : Addr} {fd : FuncData} (F : Fun K "_law_stirred" "_law_stirred" s__law_stirred f fd) (N : Nm mg) : FnOk P w K mg base CX0 1 f fd ["_law_number", "_law_k"] sp__law_stirred := by
  refine F.ok sc__law_stirred (fun vs H Q E h => by unfold sp__law_stirred at h; obtain ⟨n, k, rfl, _⟩ := h; rfl) (fun cdv A outer s H vs Q E hr h => ?_)
  unfold sp__law_stirred at h
  obtain ⟨n, k, rfl, h1, h2, h3, h4, q⟩ := h
  refine ⟨_, (pss_cons (psS (i := 2) sc__law_stirred.nd (pe_op oMod (pe_op oMul (pe_op oAdd (pe_op oAdd (pe_op oMul (pq 0) (pq 0)) (pe_op oMul (pq 1) (pq 0))) (pe_op oMul (pe_op oMul pe_int (pq 1)) (pq 1))) pe_int) pe_int))
      (pss_one (ps_ret (pe_op oMod (pe_op oMul (pq 2) (pq 2)) pe_int)))), ?_⟩
  repeat walk_at "st"
  walk_at "wh"
  exact q _ (by assumption) (by assumption)
/-- a list that is drawn from: its number, its kind, how often -/
def LeftAt (H : Hp) (a : Addr) (b : Int) : Prop := ∃ x y z : Int, H a = some (.lst [.int x, .int y, .int z]) ∧ (y = 1 ∨ (y = 0 ∧ 0 ≤ x ∧ x < 2147483629)) ∧ 0 ≤ z ∧ z ≤ b
theorem LeftAt.same {H H' : Hp} {a : Addr} {b : Int} (h : LeftAt H a b) (s : Same H H') : LeftAt H' a b := by
  obtain ⟨x, y, z, e, r⟩ := h
  exact ⟨x, y, z, s _ _ e, r⟩
local macro_rules | `(tactic| walk_at "la") => `(tactic| first | assumption | (refine LeftAt.same (H := ?H) ?l ?s; (case s => assumption); (case l => walk_at "la")) | fail "la")
theorem LeftAt.up {H : Hp} {a : Addr} {b c : Int} (h : LeftAt H a b) (l : b ≤ c) : LeftAt H a c := by
  obtain ⟨x, y, z, e1, e2, e3, e4⟩ := h
  exact ⟨x, y, z, e1, e2, e3, by walk_at "om"⟩
theorem LeftAt.ne {H : Hp} {a p : Addr} {b : Int} (h : LeftAt H a b) (f : H p = none) : p ≠ a := by
  obtain ⟨x, y, z, e, _⟩ := h
  exact Ne.symm (ne_of_none e f)
local macro_rules | `(tactic| walk_at "ne") => `(tactic| first | assumption | (apply Ne.symm; assumption) | (refine LeftAt.ne (H := ?H) (b := ?b) ?l ?f; (case f => assumption); (case l => walk_at "la")) | fail "ne")
@[irreducible] def sp__law_opened : Sp := fun vs H Q _ => ∃ c : Int, vs = [.int c] ∧ ∀ p H', H p = none → Same H H' → LeftAt H' p 0 → Q (.ref p) H'
theorem opened_rd {H : Hp} {c : Int} {Q : VK} {E : XK} (q : ∀ p H', H p = none → Same H H' → LeftAt H' p 0 → Q (.ref p) H') : sp__law_opened [.int c] H Q E := by
  unfold sp__law_opened; exact ⟨c, rfl, q⟩
theorem ok__law_opened {f : Addr} {fd : FuncData} (F : Fun K "_law_opened" "_law_opened" s__law_opened f fd) (N : Nm mg) : FnOk P w K mg base CX0 1 f fd ["_law_cell"] sp__law_opened := by
  refine F.ok sc__law_opened (fun vs H Q E h => by unfold sp__law_opened at h; obtain ⟨n, rfl, _⟩ := h; rfl) (fun cdv A outer s H vs Q E hr h => ?_)
  unfold sp__law_opened at h
  obtain ⟨c, rfl, q⟩ := h
  refine ⟨_, (pss_cons (psIf (ptC oLt (pq 0) (pe_op oPow pe_int pe_int)) (pss_one (ps_ret (peLst (pa_cons (pe_op oMod (pq 0) pe_int) (pa_cons pe_int (pa_cons pe_int pa_nil)))))) pss_nil)
      (pss_one (ps_ret (peLst (pa_cons (pe_op oSub (pq 0) (pe_op oPow pe_int pe_int)) (pa_cons pe_int (pa_cons pe_int pa_nil))))))), ?_⟩
  walk_at "st"
  refine br_dec (fun h => ?_) (fun h => ?_)
  · repeat walk_at "st"
    walk_at "wh"
    exact q _ _ (by assumption) (by assumption) ⟨_, _, _, by assumption, .inr ⟨rfl, by assumption, by assumption⟩, by walk_at "om", by walk_at "om"⟩
  · repeat walk_at "st"
    walk_at "wh"
    exact q _ _ (by assumption) (by assumption) ⟨_, _, _, by assumption, .inl rfl, by walk_at "om", by walk_at "om"⟩
@[irreducible] def sp__law_draw : Sp := fun vs H Q _ => ∃ (a : Addr) (m b : Int), vs = [.ref a, .int m] ∧ LeftAt H a b ∧ b ≤ 1000000 ∧ 0 < m ∧ m < 10 ^ 60 ∧ ∀ (d : Int) H', 0 ≤ d → d < m → Chg a H H' → LeftAt H' a (b + 4) → Q (.int d) H'
theorem draw_rd {H : Hp} {a : Addr} {m b : Int} {Q : VK} {E : XK} (hL : LeftAt H a b) (hb : b ≤ 1000000) (h0 : 0 < m) (h1 : m < 10 ^ 60) (q : ∀ (d : Int) H', 0 ≤ d → d < m → Chg a H H' → LeftAt H' a (b + 4) → Q (.int d) H') : sp__law_draw [.ref a, .int m] H Q E := by
  unfold sp__law_draw; exact ⟨a, m, b, rfl, hL, hb, h0, h1, q⟩
theorem ok__law_draw {f : Addr} {fd : FuncData} (F : Fun K "_law_draw" "_law_draw" s__law_draw f fd) (N : Nm mg) (D__law_stirred : Def P w K mg base CX0 1 "_law_stirred" ["_law_number", "_law_k"] sp__law_stirred) : FnOk P w K mg base CX0 2 f fd ["_law_left", "_law_base"] sp__law_draw := by
  refine F.ok sc__law_draw (fun vs H Q E h => by unfold sp__law_draw at h; obtain ⟨a, m, b, rfl, _⟩ := h; rfl) (fun cdv A outer s H vs Q E hr h => ?_)
  unfold sp__law_draw at h
  obtain ⟨a, m, b, rfl, ⟨x, y, z, hl, hy, hz0, hz1⟩, hb, hm0, hm1, q⟩ := h
  have hu := hu40 hr
  refine ⟨_, (pss_cons (psIf (ptC (oEqK (K := K) rfl (by exact hu)) (peIxK (K := K) rfl (pq 0) pe_int) pe_int) (pss_cons (psS (i := 2) sc__law_draw.nd (pe_op oMod (peIxK (K := K) rfl (pq 0) pe_int) (pq 1)))
      (pss_cons (ps_asg (pe_op oDiv (peIxK (K := K) rfl (pq 0) pe_int) (pq 1)) (pg_sub (pq 0) pe_int setM))
      (pss_one (ps_ret (pq 2))))) pss_nil)
      (pss_cons (psS (i := 3) sc__law_draw.nd pe_int)
      (pss_cons (psFor PassesOwn.never rfl (piRng1 N.range_ (pa_cons (peIxK (K := K) rfl (peLst (pa_cons pe_int (pa_cons pe_int pa_nil))) (pT cInt N.int_ bt_int (pa_cons (peC oGt (pq 1) (pe_op oPow pe_int pe_int)) pa_nil))) pa_nil)) (pg_name (i := 4) sc__law_draw.nd rfl (by first | exact Or.inl rfl | exact Or.inr rfl)) (pss_cons (ps_asg (pe_op oAdd (peIxK (K := K) rfl (pq 0) pe_int) pe_int) (pg_sub (pq 0) pe_int setM))
      (pss_cons (psS (i := 5) sc__law_draw.nd (pD D__law_stirred hr pass0 (pa_cons (peIxK (K := K) rfl (pq 0) pe_int) (pa_cons (peIxK (K := K) rfl (pq 0) pe_int) pa_nil))))
      (pss_one (psS (i := 3) sc__law_draw.nd (pe_op oAdd (pe_op oMul (pq 3) pe_int) (pe_op oMod (pe_op oMul (pq 5) (pe_op oAdd (pq 5) pe_int)) pe_int)))))))
      (pss_one (ps_ret (pe_op oMod (pq 3) (pq 1))))))), ?_⟩
  walk_at "st"
  refine br_dec (fun h => ?_) (fun h => ?_)
  · subst h
    walk_at "st"
    walk_at "st"
    walk_at "st"
    walk_at "st"
    refine set_rd hl (by rfl) (fun H1 hc h1 => ?_)
    walk_at "wh"
    exact q _ _ (by assumption) (by assumption) hc ⟨_, _, _, h1, .inl rfl, hz0, by walk_at "om"⟩
  · obtain ⟨rfl, hx0, hx1⟩ : y = 0 ∧ 0 ≤ x ∧ x < 2147483629 := by walk_at "om"
    refine newL_rd (fun p1 H1 hf1 hs1 ha1 => ?_)
    walk_at "st"
    refine ixAny_rd ha1 (by split <;> decide) (by show _ < ((2 : Nat) : Int); split <;> decide) (fun v hv => ?_)
    obtain ⟨j, rfl, hj1, hj4⟩ : ∃ j : Int, v = .int j ∧ 1 ≤ j ∧ j ≤ 4 := by
      simp only [List.mem_cons, List.not_mem_nil, or_false] at hv
      rcases hv with rfl | rfl
      · exact ⟨1, rfl, by decide, by decide⟩
      · exact ⟨4, rfl, by decide, by decide⟩
    refine range_rd (by decide) (by decide) (by walk_at "om") (by walk_at "om") ?_
    refine loop_range (fun i σ H2 => ∃ (num : Int) (t mx : Option V), σ = [some (.ref a), some (.int m), none, some (.int num), t, mx] ∧ 0 ≤ num ∧ Chg a H H2 ∧ H2 a = some (.lst [.int x, .int 0, .int (z + i)])) ?_ ?_ ?_
    · exact ⟨0, none, none, rfl, by decide, hs1.toChg, by rw [hs1 _ _ hl]; simp⟩
    · rintro i σ H2 hi ⟨num, t, mx, rfl, hn, hc, h2⟩
      have hi4 : (i : Int) < 4 := by walk_at "om"
      walk_at "st"
      refine set_rd h2 (by rfl) (fun H3 hc3 h3 => ?_)
      walk_at "st"
      walk_at "st"
      refine stirred_rd hx0 hx1 (by walk_at "om") (by walk_at "om") (fun r hr0 hr1 => ?_)
      walk_at "st"
      walk_at "st"
      walk_at "st"
      walk_at "wh"
      refine ⟨_, _, _, rfl, ?_, hc.trans hc3, ?_⟩
      · rename_i r2 hr20 hr21
        omega
      · rw [h3]
        have e : z + (i : Int) + 1 = z + ((i + 1 : Nat) : Int) := by walk_at "om"
        rw [← e]
        rfl
    · rintro σ H2 ⟨num, t, mx, rfl, hn, hc, h2⟩
      walk_at "st"
      walk_at "wh"
      exact q _ _ (by assumption) (by assumption) hc ⟨_, _, _, h2, .inr ⟨rfl, hx0, hx1⟩, by walk_at "om", by walk_at "om"⟩
theorem LeftAt.chg {H H' : Hp} {a p : Addr} {b : Int} (h : LeftAt H a b) (c : Chg p H H') (n : a ≠ p) : LeftAt H' a b := by
  obtain ⟨x, y, z, e, r⟩ := h
  exact ⟨x, y, z, c _ _ n e, r⟩
/-! ### the rows as the law writes them -/
theorem join2_list (a b : Str) (r : List Str) : (Txt.join blank (a :: b :: r)).cps.toList = a.cps.toList ++ 32 :: (Txt.join blank (b :: r)).cps.toList := by
  rw [show Txt.join blank (a :: b :: r) = blank.join (a :: b :: r) from StrLaws.glued_eq_join _ _, show Txt.join blank (b :: r) = blank.join (b :: r) from StrLaws.glued_eq_join _ _]
  exact join_cons_list 32 a b r
theorem join1_list (a : Str) : (Txt.join blank [a]).cps.toList = a.cps.toList := by
  rw [show Txt.join blank [a] = blank.join [a] from StrLaws.glued_eq_join _ _, Str.join.eq_2]
theorem flow_b : ("flow " : Str).cps.toList = ("flow" : Str).cps.toList ++ [32] := by decide +kernel
theorem number_b : ("number " : Str).cps.toList = ("number" : Str).cps.toList ++ [32] := by decide +kernel
theorem blank_b : (" " : Str).cps.toList = [32] := by decide +kernel
theorem flR_text (k : Nat) (z : F3) : ("flow " : Str) ++ numS (k : Int) ++ (" " : Str) ++ numS z.1 ++ (" " : Str) ++ numS z.2.1 ++ (" " : Str) ++ numS z.2.2 = rtext (flR k z) := by
  refine PyProof.Rows.ext_toList ?_
  unfold rtext flR
  simp only [List.map_cons, List.map_nil, join2_list, join1_list, PySem.W.KT.app_list, flow_b, blank_b, List.append_assoc, List.singleton_append, List.cons_append, List.nil_append]
theorem nuR_text (k c : Nat) (n : Int) : ("number " : Str) ++ numS (k : Int) ++ (" " : Str) ++ numS (c : Int) ++ (" " : Str) ++ numS n = rtext (nuR k c n) := by
  refine PyProof.Rows.ext_toList ?_
  unfold rtext nuR
  simp only [List.map_cons, List.map_nil, join2_list, join1_list, PySem.W.KT.app_list, number_b, blank_b, List.append_assoc, List.singleton_append, List.cons_append, List.nil_append]
theorem app_len (a b : Str) : (a ++ b).length = a.length + b.length := by
  have h := congrArg List.length (PySem.W.KT.app_list a b)
  rw [List.length_append] at h
  exact h
theorem lens3 : (Str.ofString "flow ").length = 5 ∧ (Str.ofString "number ").length = 7 ∧ (Str.ofString " ").length = 1 := by decide +kernel
theorem num_rd {n : Int} {H : Hp} {Q : VK} (h : SmI n) (q : Q (.str (numS n)) H) : rStrA (.int n) H Q := strA_rd (.int n) h.shows q
def txV (rs : List Rw) : List V := rs.map fun r => V.str (rtext r)
theorem txV_snoc (rs : List Rw) (r : Rw) : txV (rs ++ [r]) = txV rs ++ [.str (rtext r)] := by unfold txV; rw [List.map_append]; rfl
theorem txV_len (rs : List Rw) : (txV rs).length = rs.length := by unfold txV; rw [List.length_map]
@[irreducible] def sp__law_rows_of : Sp := fun vs H Q _ => ∃ (p st tb : Addr) (rs : List (Addr × List Addr)) (xss : List (List F3)) (qs : List Addr) (nss : List (List Int)), vs = [.ref p] ∧ PpX H p st tb rs xss qs nss ∧ PxB xss nss ∧ ∀ l H', H l = none → Same H H' → H' l = some (.lst (txV (flowsR 0 xss ++ numsR 0 nss))) → Q (.ref l) H'
theorem rows_of_rd {H : Hp} {p st tb : Addr} {rs : List (Addr × List Addr)} {xss : List (List F3)} {qs : List Addr} {nss : List (List Int)} {Q : VK} {E : XK} (A : PpX H p st tb rs xss qs nss) (B : PxB xss nss) (q : ∀ l H', H l = none → Same H H' → H' l = some (.lst (txV (flowsR 0 xss ++ numsR 0 nss))) → Q (.ref l) H') : sp__law_rows_of [.ref p] H Q E := by
  unfold sp__law_rows_of; exact ⟨p, st, tb, rs, xss, qs, nss, rfl, A, B, q⟩
theorem same_chg {H I J : Hp} {l : Addr} (f : H l = none) (s : Same H I) (c : Chg l I J) : Same H J := fun b o z => c _ _ (ne_of_none z f) (s _ _ z)
set_option maxHeartbeats 0 in
theorem ok__law_rows_of {f : Addr} {fd : FuncData} (F : Fun K "_law_rows_of" "_law_rows_of" s__law_rows_of f fd) (N : Nm mg) : FnOk P w K mg base CX0 1 f fd ["_law_paper"] sp__law_rows_of := by
  refine F.ok sc__law_rows_of (fun vs H Q E h => by unfold sp__law_rows_of at h; obtain ⟨_, _, _, _, _, _, _, rfl, _⟩ := h; rfl) (fun cdv A outer s H vs Q E hr h => ?_)
  unfold sp__law_rows_of at h
  obtain ⟨p, st, tb, rs, xss, qs, nss, rfl, A', B, q⟩ := h
  have hu := hu40 hr
  have l1 := flowsR_len (l := 20) 0 (xss := xss) fun xs hx => (B.rl xs hx).2
  have l2 := numsR_len (l := 20) 0 (nss := nss) fun xs hx => (B.nl xs hx).2
  have f1 := B.fl
  have t1 := B.tl
  have S := A'.stm
  have T := A'.tab
  have sl := S.len
  have tl := T.len
  refine ⟨_, (pss_cons (psS (i := 1) sc__law_rows_of.nd (peLst pa_nil))
      (pss_cons (psFor PassesOwn.never rfl (piEnumK (K := K) rfl N.enumerate_ (pa_cons (peIxK (K := K) rfl (pq 0) pe_int) pa_nil)) (pgAnyK (K := K) (n := 2) rfl rfl (pgsCons (pg_name (i := 2) sc__law_rows_of.nd rfl (by first | exact Or.inl rfl | exact Or.inr rfl)) (pgsCons (pg_name (i := 3) sc__law_rows_of.nd rfl (by first | exact Or.inl rfl | exact Or.inr rfl)) pgsNil))) (pss_one (psFor PassesOwn.never rfl (piSeqK (K := K) rfl (pq 3)) (pgAnyK (K := K) (n := 3) rfl rfl (pgsCons (pg_name (i := 4) sc__law_rows_of.nd rfl (by first | exact Or.inl rfl | exact Or.inr rfl)) (pgsCons (pg_name (i := 5) sc__law_rows_of.nd rfl (by first | exact Or.inl rfl | exact Or.inr rfl)) (pgsCons (pg_name (i := 6) sc__law_rows_of.nd rfl (by first | exact Or.inl rfl | exact Or.inr rfl)) pgsNil)))) (pss_one (ps_expr (peM_append (pq 1) (pa_cons (pe_op oAdd (pe_op oAdd (pe_op oAdd (pe_op oAdd (pe_op oAdd (pe_op oAdd (pe_op oAdd pe_str (pT (cStrA hr) N.str_ bt_str (pa_cons (pq 2) pa_nil))) pe_str) (pT (cStrA hr) N.str_ bt_str (pa_cons (pq 4) pa_nil))) pe_str) (pT (cStrA hr) N.str_ bt_str (pa_cons (pq 5) pa_nil))) pe_str) (pT (cStrA hr) N.str_ bt_str (pa_cons (pq 6) pa_nil))) pa_nil)))))))
      (pss_cons (psFor PassesOwn.never rfl (piEnumK (K := K) rfl N.enumerate_ (pa_cons (peIxK (K := K) rfl (pq 0) pe_int) pa_nil)) (pgAnyK (K := K) (n := 2) rfl rfl (pgsCons (pg_name (i := 2) sc__law_rows_of.nd rfl (by first | exact Or.inl rfl | exact Or.inr rfl)) (pgsCons (pg_name (i := 7) sc__law_rows_of.nd rfl (by first | exact Or.inl rfl | exact Or.inr rfl)) pgsNil))) (pss_one (psFor PassesOwn.never rfl (piEnumK (K := K) rfl N.enumerate_ (pa_cons (pq 7) pa_nil)) (pgAnyK (K := K) (n := 2) rfl rfl (pgsCons (pg_name (i := 8) sc__law_rows_of.nd rfl (by first | exact Or.inl rfl | exact Or.inr rfl)) (pgsCons (pg_name (i := 9) sc__law_rows_of.nd rfl (by first | exact Or.inl rfl | exact Or.inr rfl)) pgsNil))) (pss_one (ps_expr (peM_append (pq 1) (pa_cons (pe_op oAdd (pe_op oAdd (pe_op oAdd (pe_op oAdd (pe_op oAdd pe_str (pT (cStrA hr) N.str_ bt_str (pa_cons (pq 2) pa_nil))) pe_str) (pT (cStrA hr) N.str_ bt_str (pa_cons (pq 8) pa_nil))) pe_str) (pT (cStrA hr) N.str_ bt_str (pa_cons (pq 9) pa_nil))) pa_nil)))))))
      (pss_one (ps_ret (pq 1)))))), ?_⟩
  refine newL_rd (fun l H1 g1 s1 k1 => ?_)
  refine ixT_rd (v := .ref st) (s1 _ _ A'.out) rfl ?_
  refine enum_rd (s1 _ _ S.out) ?_
  refine loop_enum (xs := rs.map fun r => V.ref r.1) (fun i σ I => ∃ x2 x3 x4 x5 x6 x7 x8 x9 : Option V, σ = [some (.ref p), some (.ref l), x2, x3, x4, x5, x6, x7, x8, x9] ∧ Same H I ∧ I l = some (.lst (txV (flowsR 0 (xss.take i))))) ?_ ?_ ?_ ?_
  · exact ⟨_, _, _, _, _, _, _, _, rfl, s1, k1⟩
  · rintro i σ I _ ⟨_, _, _, _, _, _, _, _, _, sI, _⟩
    exact SqL.of (sI _ _ S.out)
  · rintro i y σ I e I' hy ⟨x2, x3, x4, x5, x6, x7, x8, x9, rfl, sI, hl⟩ fe sE he
    rw [List.getElem?_map] at hy
    obtain ⟨r, er, rfl⟩ := Option.map_eq_some_iff.mp hy
    have hi := (List.getElem?_eq_some_iff.mp er).1
    obtain ⟨xs, ex⟩ : ∃ xs, xss[i]? = some xs := ⟨_, List.getElem?_eq_getElem (by walk_at "om")⟩
    have sI' := sI.trans sE
    have X := S.row i r xs er ex
    have xl := X.len
    have xm := List.mem_of_getElem? ex
    have xh := (B.rl xs xm).2
    have ln := flowsR_len (l := 20) 0 (xss := xss.take i) fun ys hy => (B.rl ys (List.mem_of_mem_take hy)).2
    rw [List.length_take] at ln
    refine unpT_rd he ?_
    refine iterL_rd (sI' _ _ X.out) ?_
    refine loop_list (xs := r.2.map V.ref) (fun j σ J => ∃ x4 x5 x6 x7 x8 x9 : Option V, σ = [some (.ref p), some (.ref l), some (.int i), some (.ref r.1), x4, x5, x6, x7, x8, x9] ∧ Same H J ∧ J l = some (.lst (txV (flowsR 0 (xss.take i) ++ (xs.take j).map (flR i))))) ?_ ?_ ?_ ?_
    · exact ⟨_, _, _, _, _, _, rfl, sI', by rw [List.take_zero, List.map_nil, List.append_nil]; exact sE _ _ hl⟩
    · rintro j σ J _ ⟨_, _, _, _, _, _, _, sJ, _⟩
      exact SqL.of (sJ _ _ X.out)
    · rintro j v σ J hj ⟨x4, x5, x6, x7, x8, x9, rfl, sJ, kJ⟩
      rw [List.getElem?_map] at hj
      obtain ⟨b, eb, rfl⟩ := Option.map_eq_some_iff.mp hj
      have jl := (List.getElem?_eq_some_iff.mp eb).1
      obtain ⟨z, ez⟩ : ∃ z, xs[j]? = some z := ⟨_, List.getElem?_eq_getElem (by walk_at "om")⟩
      obtain ⟨b1, b2, b3⟩ := B.rn xs xm z (List.mem_of_getElem? ez)
      have bk : SmI (i : Int) := SmI.nat (by walk_at "om")
      have n0 := numS_len bk
      have n1 := numS_len b1
      have n2 := numS_len b2
      have n3 := numS_len b3
      refine unpT_rd (sJ _ _ (X.row j b z eb ez)) ?_
      refine lst_is kJ ?_
      walk_at "wh"
      obtain ⟨c1, _, c2⟩ := lens3
      refine num_rd bk ?_
      refine ⟨by simp only [app_len, sizeLine_eq]; omega, ?_⟩
      walk_at "wh"
      refine ⟨by simp only [app_len, sizeLine_eq]; omega, ?_⟩
      refine num_rd b1 ?_
      refine ⟨by simp only [app_len, sizeLine_eq]; omega, ?_⟩
      walk_at "wh"
      refine ⟨by simp only [app_len, sizeLine_eq]; omega, ?_⟩
      refine num_rd b2 ?_
      refine ⟨by simp only [app_len, sizeLine_eq]; omega, ?_⟩
      walk_at "wh"
      refine ⟨by simp only [app_len, sizeLine_eq]; omega, ?_⟩
      refine num_rd b3 ?_
      refine ⟨by simp only [app_len, sizeLine_eq]; omega, ?_⟩
      refine app_rd kJ (by rw [txV_len, List.length_append, List.length_map, List.length_take, sizeLine_eq]; omega) (fun J2 d2 k2 => ?_)
      walk_at "wh"
      refine ⟨_, _, _, _, _, _, rfl, same_chg g1 sJ d2, ?_⟩
      rw [List.take_succ, ez]
      show J2 l = some (.lst (txV (flowsR 0 (xss.take i) ++ (xs.take j ++ [z]).map (flR i))))
      rw [List.map_append, ← List.append_assoc, List.map_cons, List.map_nil, txV_snoc, ← flR_text]
      exact k2
    · rintro σ J ⟨x4, x5, x6, x7, x8, x9, rfl, sJ, kJ⟩
      rw [List.length_map, List.take_of_length_le (l := xs) (by walk_at "om")] at kJ
      walk_at "wh"
      refine ⟨_, _, _, _, _, _, _, _, rfl, sJ, ?_⟩
      rw [List.take_succ, ex]
      show J l = some (.lst (txV (flowsR 0 (xss.take i ++ [xs]))))
      rw [flowsR_snoc, List.length_take, Nat.min_eq_left (by walk_at "om"), Nat.zero_add]
      exact kJ
  · rintro σ I ⟨x2, x3, x4, x5, x6, x7, x8, x9, rfl, sI, hl⟩
    rw [List.length_map, List.take_of_length_le (by walk_at "om")] at hl
    refine ixT_rd (v := .ref tb) (sI _ _ A'.out) rfl ?_
    refine enum_rd (sI _ _ T.out) ?_
    refine loop_enum (xs := qs.map V.ref) (fun i σ I => ∃ x2 x3 x4 x5 x6 x7 x8 x9 : Option V, σ = [some (.ref p), some (.ref l), x2, x3, x4, x5, x6, x7, x8, x9] ∧ Same H I ∧ I l = some (.lst (txV (flowsR 0 xss ++ numsR 0 (nss.take i))))) ?_ ?_ ?_ ?_
    · exact ⟨_, _, _, _, _, _, _, _, rfl, sI, by rw [List.take_zero]; show I l = some (.lst (txV (flowsR 0 xss ++ []))); rw [List.append_nil]; exact hl⟩
    · rintro i σ I _ ⟨_, _, _, _, _, _, _, _, _, sI, _⟩
      exact SqL.of (sI _ _ T.out)
    · rintro i y σ I e I' hy ⟨x2, x3, x4, x5, x6, x7, x8, x9, rfl, sI, hl⟩ fe sE he
      rw [List.getElem?_map] at hy
      obtain ⟨r, er, rfl⟩ := Option.map_eq_some_iff.mp hy
      have hi := (List.getElem?_eq_some_iff.mp er).1
      obtain ⟨ns, ex⟩ : ∃ xs, nss[i]? = some xs := ⟨_, List.getElem?_eq_getElem (by walk_at "om")⟩
      have sI' := sI.trans sE
      have X := T.row i r ns er ex
      have xm := List.mem_of_getElem? ex
      have xh := (B.nl ns xm).2
      have ln := numsR_len (l := 20) 0 (nss := nss.take i) fun ys hy => (B.nl ys (List.mem_of_mem_take hy)).2
      rw [List.length_take] at ln
      refine unpT_rd he ?_
      refine enum_rd (sI' _ _ X) ?_
      refine loop_enum (xs := ns.map V.int) (fun j σ J => ∃ x3 x4 x5 x6 x8 x9 : Option V, σ = [some (.ref p), some (.ref l), some (.int i), x3, x4, x5, x6, some (.ref r), x8, x9] ∧ Same H J ∧ J l = some (.lst (txV (flowsR 0 xss ++ numsR 0 (nss.take i) ++ numR i 0 (ns.take j))))) ?_ ?_ ?_ ?_
      · exact ⟨_, _, _, _, _, _, rfl, sI', by rw [List.take_zero]; show I' l = some (.lst (txV (_ ++ []))); rw [List.append_nil]; exact sE _ _ hl⟩
      · rintro j σ J _ ⟨_, _, _, _, _, _, _, sJ, _⟩
        exact SqL.of (sJ _ _ X)
      · rintro j v σ J e2 J' hj ⟨x3, x4, x5, x6, x8, x9, rfl, sJ, kJ⟩ fe2 sE2 he2
        rw [List.getElem?_map] at hj
        obtain ⟨n, en, rfl⟩ := Option.map_eq_some_iff.mp hj
        have jl := (List.getElem?_eq_some_iff.mp en).1
        have b1 := B.nn ns xm n (List.mem_of_getElem? en)
        have bk : SmI (i : Int) := SmI.nat (by walk_at "om")
        have bj : SmI (j : Int) := SmI.nat (by walk_at "om")
        have n0 := numS_len bk
        have n1 := numS_len b1
        have n2 := numS_len bj
        obtain ⟨_, c1, c2⟩ := lens3
        have kJ' := sE2 _ _ kJ
        refine unpT_rd he2 ?_
        refine lst_is kJ' ?_
        refine num_rd bk ?_
        refine ⟨by simp only [app_len, sizeLine_eq]; omega, ?_⟩
        walk_at "wh"
        refine ⟨by simp only [app_len, sizeLine_eq]; omega, ?_⟩
        refine num_rd bj ?_
        refine ⟨by simp only [app_len, sizeLine_eq]; omega, ?_⟩
        walk_at "wh"
        refine ⟨by simp only [app_len, sizeLine_eq]; omega, ?_⟩
        refine num_rd b1 ?_
        refine ⟨by simp only [app_len, sizeLine_eq]; omega, ?_⟩
        refine app_rd kJ' (by rw [txV_len, List.length_append, List.length_append, numR_len, List.length_take, sizeLine_eq]; omega) (fun J2 d2 k2 => ?_)
        walk_at "wh"
        refine ⟨_, _, _, _, _, _, rfl, same_chg g1 (sJ.trans sE2) d2, ?_⟩
        rw [List.take_succ, en]
        show J2 l = some (.lst (txV (flowsR 0 xss ++ numsR 0 (nss.take i) ++ numR i 0 (ns.take j ++ [n]))))
        rw [numR_snoc, ← List.append_assoc, txV_snoc, List.length_take, Nat.min_eq_left (by walk_at "om"), Nat.zero_add, ← nuR_text]
        exact k2
      · rintro σ J ⟨x3, x4, x5, x6, x8, x9, rfl, sJ, kJ⟩
        rw [List.length_map, List.take_of_length_le (l := ns) (Nat.le_refl _)] at kJ
        walk_at "wh"
        refine ⟨_, _, _, _, _, _, _, _, rfl, sJ, ?_⟩
        rw [List.take_succ, ex]
        show J l = some (.lst (txV (flowsR 0 xss ++ numsR 0 (nss.take i ++ [ns]))))
        rw [numsR_snoc, List.length_take, Nat.min_eq_left (by walk_at "om"), Nat.zero_add, ← List.append_assoc]
        exact kJ
    · rintro σ I ⟨x2, x3, x4, x5, x6, x7, x8, x9, rfl, sI, hl⟩
      rw [List.length_map, List.take_of_length_le (l := nss) (by walk_at "om")] at hl
      walk_at "wh"
      exact q l I g1 sI hl
-- @@split
/-! ### a paper of any numbers -/
structure StO (I : Hp) (a l : Addr) (rs : List (Addr × List Addr)) (xss : List (List F3)) : Prop where
  out : I l = some (.lst (rs.map fun r => V.ref r.1))
  len : rs.length = xss.length
  row : ∀ (i : Nat) r xs, rs[i]? = some r → xss[i]? = some xs → RwX (rm l (rm a I)) r.1 r.2 xs
theorem StO.chg {I J : Hp} {a l : Addr} {rs : List (Addr × List Addr)} {xss : List (List F3)} (S : StO I a l rs xss) (n : l ≠ a) (c : Chg a I J) : StO J a l rs xss := ⟨c _ _ n S.out, S.len, fun i r xs e1 e2 => (S.row i r xs e1 e2).same (Same.rm (Chg.rm c))⟩
theorem StO.same {I J : Hp} {a l : Addr} {rs : List (Addr × List Addr)} {xss : List (List F3)} (S : StO I a l rs xss) (s : Same I J) : StO J a l rs xss := ⟨s _ _ S.out, S.len, fun i r xs e1 e2 => (S.row i r xs e1 e2).same (Same.rm (Same.rm s))⟩
theorem StO.push {I J : Hp} {a l w : Addr} {bs : List Addr} {xs : List F3} {rs : List (Addr × List Addr)} {xss : List (List F3)} (S : StO I a l rs xss) (c : Chg l I J) (k : J l = some (.lst ((rs.map fun r => V.ref r.1) ++ [.ref w]))) (R : RwX (rm l (rm a I)) w bs xs) : StO J a l (rs ++ [(w, bs)]) (xss ++ [xs]) := by
  have s : Same (rm l (rm a I)) (rm l (rm a J)) := fun b o z => by
    obtain ⟨z1, z2⟩ := rm_of z
    obtain ⟨z3, z4⟩ := rm_of z2
    exact rm_at z1 (rm_at z3 (c _ _ z1 z4))
  refine ⟨by rw [k, List.map_append]; rfl, by rw [List.length_append, List.length_append, S.len]; rfl, ?_⟩
  exact snoc_at (R := fun (r : Addr × List Addr) xs => RwX (rm l (rm a J)) r.1 r.2 xs) S.len (fun i r ys e1 e2 => (S.row i r ys e1 e2).same s) (R.same s)
theorem RwX.push {I J : Hp} {w b : Addr} {bs : List Addr} {xs : List F3} {x : F3} (R : RwX I w bs xs) (c : Chg w I J) (k : J w = some (.lst (bs.map V.ref ++ [.ref b]))) (h : J b = some (.tup [.int x.1, .int x.2.1, .int x.2.2])) : RwX J w (bs ++ [b]) (xs ++ [x]) := by
  refine ⟨by rw [k, List.map_append]; rfl, by rw [List.length_append, List.length_append, R.len]; rfl, ?_⟩
  refine snoc_at (R := fun b (x : F3) => J b = some (.tup [.int x.1, .int x.2.1, .int x.2.2])) R.len (fun i b' x' e1 e2 => ?_) h
  have hb := R.row i b' x' e1 e2
  exact c _ _ (fun z => by rw [z, R.out] at hb; cases hb) hb
theorem RwX.chgA {I J : Hp} {a w : Addr} {b : Int} {bs : List Addr} {xs : List F3} (R : RwX I w bs xs) (n : w ≠ a) (L : LeftAt I a b) (c : Chg a I J) : RwX J w bs xs := by
  refine ⟨c _ _ n R.out, R.len, fun i b' x e1 e2 => ?_⟩
  have hb := R.row i b' x e1 e2
  obtain ⟨u, v, z, hL, _⟩ := L
  exact c _ _ (fun y => by rw [y, hL] at hb; cases hb) hb
theorem RwX.rm2 {I : Hp} {a l w : Addr} {b : Int} {ys : List V} {bs : List Addr} {xs : List F3} (R : RwX I w bs xs) (n1 : w ≠ a) (n2 : w ≠ l) (L : LeftAt I a b) (k : I l = some (.lst ys)) : RwX (rm l (rm a I)) w bs xs := by
  refine ⟨rm_at n2 (rm_at n1 R.out), R.len, fun i b' x e1 e2 => ?_⟩
  have hb := R.row i b' x e1 e2
  obtain ⟨u, v, z, hL, _⟩ := L
  exact rm_at (fun y => by rw [y, k] at hb; cases hb) (rm_at (fun y => by rw [y, hL] at hb; cases hb) hb)
abbrev OkF (xs : List F3) : Prop := ∀ z ∈ xs, SmI z.1 ∧ SmI z.2.1 ∧ SmI z.2.2
theorem okF_snoc {xs : List F3} {x : F3} (h : OkF xs) (hx : SmI x.1 ∧ SmI x.2.1 ∧ SmI x.2.2) : OkF (xs ++ [x]) := fun z hz => by
  rcases List.mem_append.mp hz with hz | hz
  · exact h z hz
  · rw [List.mem_singleton.mp hz]; exact hx
@[irreducible] def sp__law_drawn_paper : Sp := fun vs H Q _ => ∃ (a : Addr) (b : Int), vs = [.ref a] ∧ LeftAt H a b ∧ b ≤ 10000 ∧ ∀ p st tb rs xss qs nss H', Chg a H H' → LeftAt H' a (b + 5000) → PpX (rm a H') p st tb rs xss qs nss → PxB xss nss → Q (.ref p) H'
theorem drawn_paper_rd {H : Hp} {a : Addr} {b : Int} {Q : VK} {E : XK} (hL : LeftAt H a b) (hb : b ≤ 10000) (q : ∀ p st tb rs xss qs nss H', Chg a H H' → LeftAt H' a (b + 5000) → PpX (rm a H') p st tb rs xss qs nss → PxB xss nss → Q (.ref p) H') : sp__law_drawn_paper [.ref a] H Q E := by
  unfold sp__law_drawn_paper; exact ⟨a, b, rfl, hL, hb, q⟩
set_option maxHeartbeats 0 in
theorem ok__law_drawn_paper {f : Addr} {fd : FuncData} (F : Fun K "_law_drawn_paper" "_law_drawn_paper" s__law_drawn_paper f fd) (N : Nm mg) (D__law_draw : Def P w K mg base CX0 2 "_law_draw" ["_law_left", "_law_base"] sp__law_draw) : FnOk P w K mg base CX0 3 f fd ["_law_left"] sp__law_drawn_paper := by
  refine F.ok sc__law_drawn_paper (fun vs H Q E h => by unfold sp__law_drawn_paper at h; obtain ⟨_, _, rfl, _⟩ := h; rfl) (fun cdv A outer s H vs Q E hr h => ?_)
  unfold sp__law_drawn_paper at h
  obtain ⟨a, b, rfl, hL, hb, q⟩ := h
  have hu := hu40 hr
  refine ⟨_, (pss_cons (psS (i := 1) sc__law_drawn_paper.nd (pe_op oPow pe_int pe_int))
      (pss_cons (psS (i := 2) sc__law_drawn_paper.nd (peLst pa_nil))
      (pss_cons (psFor PassesOwn.never rfl (piRng1 N.range_ (pa_cons (pe_op oAdd pe_int (pD D__law_draw hr pass0 (pa_cons (pq 0) (pa_cons pe_int pa_nil)))) pa_nil)) (pg_name (i := 3) sc__law_drawn_paper.nd rfl (by first | exact Or.inl rfl | exact Or.inr rfl)) (pss_cons (psS (i := 4) sc__law_drawn_paper.nd (peLst pa_nil))
      (pss_cons (psFor PassesOwn.never rfl (piRng1 N.range_ (pa_cons (pe_op oAdd pe_int (pD D__law_draw hr pass0 (pa_cons (pq 0) (pa_cons pe_int pa_nil)))) pa_nil)) (pg_name (i := 5) sc__law_drawn_paper.nd rfl (by first | exact Or.inl rfl | exact Or.inr rfl)) (pss_cons (psS (i := 6) sc__law_drawn_paper.nd (peIxK (K := K) rfl (peLst (pa_cons (pD D__law_draw hr pass0 (pa_cons (pq 0) (pa_cons pe_int pa_nil))) (pa_cons (pe_op oSub (pD D__law_draw hr pass0 (pa_cons (pq 0) (pa_cons (pe_op oMul pe_int (pq 1)) pa_nil))) (pq 1)) pa_nil))) (pe_op oDiv (pD D__law_draw hr pass0 (pa_cons (pq 0) (pa_cons pe_int pa_nil))) pe_int)))
      (pss_cons (psS (i := 7) sc__law_drawn_paper.nd (peIxK (K := K) rfl (peLst (pa_cons (pe_op oAdd pe_int (pD D__law_draw hr pass0 (pa_cons (pq 0) (pa_cons pe_int pa_nil)))) (pa_cons (pe_op oSub (pD D__law_draw hr pass0 (pa_cons (pq 0) (pa_cons (pe_op oMul pe_int (pq 1)) pa_nil))) (pq 1)) pa_nil))) (pe_op oDiv (pD D__law_draw hr pass0 (pa_cons (pq 0) (pa_cons pe_int pa_nil))) pe_int)))
      (pss_one (ps_expr (peM_append (pq 4) (pa_cons (peTup (pa_cons (pq 6) (pa_cons (pD D__law_draw hr pass0 (pa_cons (pq 0) (pa_cons pe_int pa_nil))) (pa_cons (pq 7) pa_nil)))) pa_nil)))))))
      (pss_one (ps_expr (peM_append (pq 2) (pa_cons (pq 4) pa_nil)))))))
      (pss_cons (psS (i := 8) sc__law_drawn_paper.nd (peLst pa_nil))
      (pss_cons (psS (i := 9) sc__law_drawn_paper.nd (pe_op oAdd pe_int (pD D__law_draw hr pass0 (pa_cons (pq 0) (pa_cons pe_int pa_nil)))))
      (pss_cons (psFor PassesOwn.never rfl (piRng1 N.range_ (pa_cons (pe_op oAdd pe_int (pD D__law_draw hr pass0 (pa_cons (pq 0) (pa_cons pe_int pa_nil)))) pa_nil)) (pg_name (i := 3) sc__law_drawn_paper.nd rfl (by first | exact Or.inl rfl | exact Or.inr rfl)) (pss_cons (psS (i := 10) sc__law_drawn_paper.nd (peIxK (K := K) rfl (peLst (pa_cons pe_int (pa_cons (pq 1) pa_nil))) (pD D__law_draw hr pass0 (pa_cons (pq 0) (pa_cons pe_int pa_nil)))))
      (pss_one (ps_expr (peM_append (pq 8) (pa_cons (peComp (N := ["_law_count", "_law_left", "_law_near"]) (ks := [none, some 0, some 10]) (piRng1 N.range_ (pa_cons (peIxK (K := K) rfl (peLst (pa_cons (pq 9) (pa_cons pe_int pa_nil))) (pe_op oDiv (pD D__law_draw hr pass0 (pa_cons (pq 0) (pa_cons pe_int pa_nil))) pe_int)) pa_nil)) (fun cl C s3 H3 fp => (pg_name (i := 0) nb_3 rfl (by first | exact Or.inl rfl | exact Or.inr rfl))) (fun cl C s3 H3 fp => pts_nil) (fun cl C s3 H3 fp => (pe_op oSub (pD D__law_draw hr pass0 (pa_cons (pq 1) (pa_cons (pe_op oMul pe_int (pq 2)) pa_nil))) (pq 2))) (.skip (.take rfl rfl (by first | exact Or.inl rfl | exact Or.inr rfl) (.take rfl rfl (by first | exact Or.inl rfl | exact Or.inr rfl) .nil)))) pa_nil))))))
      (pss_one (ps_ret (peTup (pa_cons (pq 2) (pa_cons (pq 8) pa_nil))))))))))), ?_⟩
  obtain ⟨far, e29⟩ : ∃ z : Int, (10 : Int) ^ (29 : Int).toNat = z := ⟨_, rfl⟩
  have far0 : far = 100000000000000000000000000000 := by rw [← e29]; rfl
  walk_at "wh"
  refine pow_lit ⟨by decide, by decide, by decide⟩ e29 ?_
  refine newL_rd (fun l H1 g1 s1 k1 => ?_)
  have nl : l ≠ a := hL.ne g1
  refine draw_rd (hL.same s1) (by walk_at "om") (by walk_at "om") (by walk_at "om") (fun d H2 d0 d1 c2 L2 => ?_)
  obtain ⟨f, ef⟩ : ∃ n : Nat, 1 + d = (n : Int) := ⟨(1 + d).toNat, by walk_at "om"⟩
  walk_at "wh"
  rw [ef]
  refine range_rd (by decide) (by decide) (by walk_at "om") (by walk_at "om") ?_
  rw [show ((f : Int) - 0).toNat = f by walk_at "om"]
  have c02 : Chg a H H2 := fun b' o z e => c2 _ _ z (s1 _ _ e)
  refine loop_range (fun i σ I => ∃ (x3 x4 x5 x6 x7 x8 x9 x10 : Option V) (rs : List (Addr × List Addr)) (xss : List (List F3)), σ = [some (.ref a), some (.int far), some (.ref l), x3, x4, x5, x6, x7, x8, x9, x10] ∧ Chg a H I ∧ LeftAt I a (b + 10 + 200 * i) ∧ StO I a l rs xss ∧ xss.length = i ∧ (∀ xs ∈ xss, 1 ≤ xs.length ∧ xs.length ≤ 20) ∧ ∀ xs ∈ xss, OkF xs) ?_ ?_ ?_
  · exact ⟨_, _, _, _, _, _, _, _, [], [], rfl, c02, L2.up (by walk_at "om"), ⟨c2 _ _ nl k1, rfl, fun i r xs e => by simp at e⟩, rfl, fun _ h => (by cases h), fun _ h => (by cases h)⟩
  · rintro i σ I hi ⟨x3, x4, x5, x6, x7, x8, x9, x10, rs, xss, rfl, cI, LI, SI, il, b1, b2⟩
    refine newL_rd (fun w I1 f1 s3 k3 => ?_)
    have nw : w ≠ a := LI.ne f1
    have nwl : w ≠ l := Ne.symm (ne_of_none SI.out f1)
    refine draw_rd (LI.same s3) (by walk_at "om") (by walk_at "om") (by walk_at "om") (fun e I2 e0 e1 c4 L4 => ?_)
    obtain ⟨g, eg⟩ : ∃ n : Nat, 1 + e = (n : Int) := ⟨(1 + e).toNat, by walk_at "om"⟩
    walk_at "wh"
    rw [eg]
    refine range_rd (by decide) (by decide) (by walk_at "om") (by walk_at "om") ?_
    rw [show ((g : Int) - 0).toNat = g by walk_at "om"]
    refine loop_range (fun j σ J => ∃ (x3 x5 x6 x7 x8 x9 x10 : Option V) (bs : List Addr) (xs : List F3), σ = [some (.ref a), some (.int far), some (.ref l), x3, some (.ref w), x5, x6, x7, x8, x9, x10] ∧ Chg a I J ∧ LeftAt J a (b + 20 + 200 * i + 40 * j) ∧ RwX J w bs xs ∧ xs.length = j ∧ OkF xs) ?_ ?_ ?_
    · exact ⟨_, _, _, _, _, _, _, [], [], rfl, fun b' o z y => c4 _ _ z (s3 _ _ y), L4.up (by walk_at "om"), ⟨c4 _ _ nw k3, rfl, fun i r xs e => by simp at e⟩, rfl, fun _ h => (by cases h)⟩
    · rintro j σ J hj ⟨x3, x5, x6, x7, x8, x9, x10, bs, xs, rfl, cJ, LJ, RJ, jl, ok⟩
      have kl := cJ _ _ nl SI.out
      refine draw_rd LJ (by walk_at "om") (by walk_at "om") (by walk_at "om") (fun u1 J1 u10 u11 d1 M1 => ?_)
      walk_at "st"
      refine draw_rd M1 (by walk_at "om") (by walk_at "om") (by walk_at "om") (fun u2 J2 u20 u21 d2 M2 => ?_)
      refine newL_rd (fun p1 K1 g1q sq1 hq1 => ?_)
      refine draw_rd (M2.same sq1) (by walk_at "om") (by walk_at "om") (by walk_at "om") (fun v1 J3 v10 v11 e1c M3 => ?_)
      have hc1 := e1c _ _ (M2.ne g1q) hq1
      walk_at "st"
      refine ixAny_rd hc1 (by walk_at "om") (by simp only [List.length_cons, List.length_nil]; omega) ?_
      intro v hv
      obtain ⟨n1, rfl, bn1⟩ : ∃ m : Int, v = .int m ∧ SmI m := by
        simp only [List.mem_cons, List.not_mem_nil, or_false] at hv
        rcases hv with rfl | rfl <;> exact ⟨_, rfl, by walk_at "om", by walk_at "om"⟩
      clear hv hc1 hq1
      refine draw_rd M3 (by walk_at "om") (by walk_at "om") (by walk_at "om") (fun u3 J4 u30 u31 d4 M4 => ?_)
      walk_at "st"
      refine draw_rd M4 (by walk_at "om") (by walk_at "om") (by walk_at "om") (fun u4 J5 u40 u41 d5 M5 => ?_)
      refine newL_rd (fun p2 K2 g2q sq2 hq2 => ?_)
      refine draw_rd (M5.same sq2) (by walk_at "om") (by walk_at "om") (by walk_at "om") (fun v2 J6 v20 v21 e2c M6 => ?_)
      have hc2 := e2c _ _ (M5.ne g2q) hq2
      walk_at "st"
      refine ixAny_rd hc2 (by walk_at "om") (by simp only [List.length_cons, List.length_nil]; omega) ?_
      intro v hv
      obtain ⟨n2, rfl, bn2⟩ : ∃ m : Int, v = .int m ∧ SmI m := by
        simp only [List.mem_cons, List.not_mem_nil, or_false] at hv
        rcases hv with rfl | rfl <;> exact ⟨_, rfl, by walk_at "om", by walk_at "om"⟩
      clear hv hc2 hq2
      have c0 : Chg a J J6 := fun b' o z y => e2c _ _ z (sq2 _ _ (d5 _ _ z (d4 _ _ z (e1c _ _ z (sq1 _ _ (d2 _ _ z (d1 _ _ z y)))))))
      have R6 := RJ.chgA nw LJ c0
      refine lst_is R6.out ?_
      refine draw_rd M6 (by walk_at "om") (by walk_at "om") (by walk_at "om") (fun u5 J7 u50 u51 d7 M7 => ?_)
      have R7 := R6.chgA nw M6 d7
      refine newT_rd (fun pt J8 g8 s8 h8 => ?_)
      have R8 := R7.same s8
      have bl := R8.len
      refine app_rd R8.out (by rw [List.length_map, sizeLine_eq]; omega) (fun J9 d9 k9 => ?_)
      have npt : pt ≠ w := Ne.symm (ne_of_none R7.out g8)
      walk_at "wh"
      exact ⟨_, _, _, _, _, _, _, bs ++ [pt], xs ++ [(n1, u5, n2)], rfl, fun b' o z y => d9 _ _ (ne_of_none y f1) (s8 _ _ (d7 _ _ z (c0 _ _ z (cJ _ _ z y)))), ((M7.same s8).chg d9 (Ne.symm nw)).up (by walk_at "om"), R8.push d9 k9 (d9 _ _ npt h8), by rw [List.length_append, jl]; rfl, okF_snoc ok ⟨bn1, ⟨by show -(10 ^ 50) ≤ u5; omega, by show u5 ≤ 10 ^ 50; omega⟩, bn2⟩⟩
    · rintro σ J ⟨x3, x5, x6, x7, x8, x9, x10, bs, xs, rfl, cJ, LJ, RJ, jl, ok⟩
      have SJ := SI.chg nl cJ
      refine lst_is SJ.out ?_
      walk_at "wh"
      have rl := SJ.len
      refine app_rd SJ.out (by rw [List.length_map, sizeLine_eq]; omega) (fun J2 d2 k2 => ?_)
      walk_at "wh"
      refine ⟨_, _, _, _, _, _, _, _, rs ++ [(w, bs)], xss ++ [xs], rfl, fun b' o z y => d2 _ _ (ne_of_none y g1) (cJ _ _ z (cI _ _ z y)), (LJ.chg d2 (Ne.symm nl)).up (by walk_at "om"), SJ.push d2 k2 (RJ.rm2 nw nwl LJ SJ.out), by rw [List.length_append, il]; rfl, fun ys hy => ?_, fun ys hy => ?_⟩
      · rcases List.mem_append.mp hy with hy | hy
        · exact b1 ys hy
        · rw [List.mem_singleton.mp hy]; omega
      · rcases List.mem_append.mp hy with hy | hy
        · exact b2 ys hy
        · rw [List.mem_singleton.mp hy]; exact ok
  · rintro σ I ⟨x3, x4, x5, x6, x7, x8, x9, x10, rs, xss, rfl, cI, LI, SI, il, b1, b2⟩
    refine newL_rd (fun tb I1 f1 s3 k3 => ?_)
    have nt : tb ≠ a := LI.ne f1
    have S1 := SI.same s3
    refine draw_rd (LI.same s3) (by walk_at "om") (by walk_at "om") (by walk_at "om") (fun e I2 e0 e1 c4 L4 => ?_)
    obtain ⟨wd, ewd⟩ : ∃ n : Nat, 1 + e = (n : Int) := ⟨(1 + e).toNat, by walk_at "om"⟩
    walk_at "wh"
    rw [ewd]
    refine draw_rd L4 (by walk_at "om") (by walk_at "om") (by walk_at "om") (fun e2 I3 e20 e21 c5 L5 => ?_)
    obtain ⟨g, eg⟩ : ∃ n : Nat, 1 + e2 = (n : Int) := ⟨(1 + e2).toNat, by walk_at "om"⟩
    walk_at "wh"
    rw [eg]
    refine range_rd (by decide) (by decide) (by walk_at "om") (by walk_at "om") ?_
    rw [show ((g : Int) - 0).toNat = g by walk_at "om"]
    have cI3 : Chg a I I3 := fun b' o z y => c5 _ _ z (c4 _ _ z (s3 _ _ y))
    refine loop_range (fun j σ J => ∃ (x3 x4 x5 x6 x7 x10 : Option V) (qs : List Addr) (zs : List (List Int)), σ = [some (.ref a), some (.int far), some (.ref l), x3, x4, x5, x6, x7, some (.ref tb), some (.int wd), x10] ∧ Chg a I J ∧ LeftAt J a (b + 1200 + 100 * j) ∧ J tb = some (.lst (qs.map V.ref)) ∧ qs.length = j ∧ zs.length = j ∧ ∀ (k : Nat) q z, qs[k]? = some q → zs[k]? = some z → q ≠ a ∧ q ≠ tb ∧ J q = some (.lst (z.map V.int)) ∧ (1 ≤ z.length ∧ z.length ≤ 20) ∧ ∀ v ∈ z, -(10 ^ 50) ≤ v ∧ v ≤ 10 ^ 50) ?_ ?_ ?_
    · exact ⟨_, _, _, _, _, _, [], [], rfl, cI3, L5.up (by walk_at "om"), c5 _ _ nt (c4 _ _ nt k3), rfl, rfl, fun k q z y => by simp at y⟩
    · rintro j σ J hj ⟨x3, x4, x5, x6, x7, x10, qs, zs, rfl, cJ, LJ, kt, ql, zl, pr⟩
      refine newL_rd (fun p1 J1 g1' sq1 hq1 => ?_)
      refine draw_rd (LJ.same sq1) (by walk_at "om") (by walk_at "om") (by walk_at "om") (fun u1 J2 u10 u11 d2 M2 => ?_)
      have hc1 := d2 _ _ (LJ.ne g1') hq1
      refine ixAny_rd hc1 (by walk_at "om") (by simp only [List.length_cons, List.length_nil]; omega) ?_
      intro v hv
      obtain ⟨near, rfl, n0, n1⟩ : ∃ m : Int, v = .int m ∧ 10 ≤ m ∧ m ≤ far := by
        simp only [List.mem_cons, List.not_mem_nil, or_false] at hv
        rcases hv with rfl | rfl <;> exact ⟨_, rfl, by walk_at "om", by walk_at "om"⟩
      clear hv hc1 hq1
      refine lst_is (d2 _ _ nt (sq1 _ _ kt)) ?_
      refine newL_rd (fun p2 J3 g2' sq2 hq2 => ?_)
      refine draw_rd (M2.same sq2) (by walk_at "om") (by walk_at "om") (by walk_at "om") (fun u2 J4 u20 u21 d4 M4 => ?_)
      have hc2 := d4 _ _ (M2.ne g2') hq2
      walk_at "st"
      refine ixAny_rd hc2 (by walk_at "om") (by simp only [List.length_cons, List.length_nil]; omega) ?_
      intro v hv
      obtain ⟨c, rfl, n2, n3⟩ : ∃ m : Nat, v = .int m ∧ 1 ≤ m ∧ m ≤ 11 := by
        simp only [List.mem_cons, List.not_mem_nil, or_false] at hv
        rcases hv with rfl | rfl
        · exact ⟨wd, rfl, by walk_at "om", by walk_at "om"⟩
        · exact ⟨1, rfl, by walk_at "om", by walk_at "om"⟩
      clear hv hc2 hq2
      have c04 : Chg a J J4 := fun b' o z y => d4 _ _ z (sq2 _ _ (d2 _ _ z (sq1 _ _ y)))
      refine range_rd (by decide) (by decide) (by walk_at "om") (by walk_at "om") ?_
      rw [show ((c : Int) - 0).toNat = c by walk_at "om"]
      refine comp_rangeV (by rw [sizeLine_eq]; omega) (fun ac Ha fa sa ha => ?_)
      have na2 : ac ≠ a := M4.ne fa
      have kt4 := c04 _ _ nt kt
      have nta : tb ≠ ac := ne_of_none kt4 fa
      refine ⟨fun i ys σ Hb => ∃ (t : Option V) (z : List Int), σ = [t, some (.ref a), some (.int near)] ∧ ys = z.map V.int ∧ z.length = i ∧ (∀ v ∈ z, -(10 ^ 50) ≤ v ∧ v ≤ 10 ^ 50) ∧ LeftAt Hb a (b + 1220 + 100 * j + 4 * i) ∧ Chg2 a ac J4 Hb, ?_, ?_, ?_⟩
      · exact ⟨none, [], rfl, rfl, rfl, fun v hv => (by cases hv), (M4.same sa).up (by walk_at "om"), sa.to2⟩
      · rintro i m2 ys σ Hb hi hm2 hl2 hb2 ⟨t2, z, rfl, rfl, lz, bz, Lb, cb⟩
        refine br_T ?_
        walk_at "st"
        refine draw_rd Lb (by walk_at "om") (by walk_at "om") (by walk_at "om") (fun dd Hc dd0 dd1 cc Lc => ?_)
        refine cputV_rd hi hm2 hl2 (cc _ _ na2 hb2) (fun Hd cd hd => ?_)
        exact ⟨_, z ++ [dd - near], rfl, by rw [List.map_append]; rfl, by rw [List.length_append, lz]; rfl, fun v hv => by
          rcases List.mem_append.mp hv with hv | hv
          · exact bz v hv
          · rw [List.mem_singleton.mp hv]; omega, (Lc.chg cd (Ne.symm na2)).up (by walk_at "om"), (cb.trans cc.toL).trans cd.toR⟩
      · rintro ys σ Hb hb2 ⟨t2, z, rfl, rfl, lz, bz, Lb, cb⟩
        have ktb := cb _ _ nt nta kt4
        refine app_rd ktb (by rw [List.length_map, sizeLine_eq]; omega) (fun Hd cd hd => ?_)
        walk_at "wh"
        have up : ∀ b' o, b' ≠ a → b' ≠ tb → J b' = some o → Hd b' = some o := fun b' o z1 z2 y => cd _ _ z2 (cb _ _ z1 (ne_of_none (c04 _ _ z1 y) fa) (c04 _ _ z1 y))
        refine ⟨_, _, _, _, _, _, qs ++ [ac], zs ++ [z], rfl, fun b' o z y => up _ _ z (ne_of_none y f1) (cJ _ _ z y), (Lb.chg cd (Ne.symm nt)).up (by walk_at "om"), by rw [hd, List.map_append]; rfl, by rw [List.length_append, ql]; rfl, by rw [List.length_append, zl]; rfl, snoc_at (R := fun q z => q ≠ a ∧ q ≠ tb ∧ Hd q = some (.lst (z.map V.int)) ∧ (1 ≤ z.length ∧ z.length ≤ 20) ∧ ∀ v ∈ z, -(10 ^ 50) ≤ v ∧ v ≤ 10 ^ 50) (by walk_at "om") (fun k q' z' y1 y2 => ?_) ⟨na2, Ne.symm nta, cd _ _ (Ne.symm nta) hb2, by walk_at "om", bz⟩⟩
        obtain ⟨y1, y2, y3, y4⟩ := pr k q' z' y1 y2
        exact ⟨y1, y2, up _ _ y1 y2 y3, y4⟩
    · rintro σ J ⟨x3, x4, x5, x6, x7, x10, qs, zs, rfl, cJ, LJ, kt, ql, zl, pr⟩
      have SJ := SI.chg nl cJ
      have X : StX (rm a J) l rs xss := ⟨rm_at nl SJ.out, SJ.len, fun i r xs y1 y2 => (SJ.row i r xs y1 y2).same (rm_same _ _)⟩
      have T : TbX (rm a J) tb qs zs := ⟨rm_at nt kt, by walk_at "om", fun i q' z' y1 y2 => rm_at (pr i q' z' y1 y2).1 (pr i q' z' y1 y2).2.2.1⟩
      have zb : ∀ z ∈ zs, (1 ≤ z.length ∧ z.length ≤ 20) ∧ ∀ v ∈ z, SmI v := fun z hz => by
        obtain ⟨i, hi, rfl⟩ := List.getElem_of_mem hz
        obtain ⟨y1, y2, y3, y4⟩ := pr i (qs[i]'(by walk_at "om")) _ (List.getElem?_eq_getElem (by walk_at "om")) (List.getElem?_eq_getElem hi)
        exact y4
      refine newT_rd (fun pp Hc fc sc hc => ?_)
      walk_at "wh"
      exact q pp l tb rs xss qs zs Hc (fun b' o z y => sc _ _ (cJ _ _ z (cI _ _ z y))) ((LJ.same sc).up (by walk_at "om")) ⟨rm_at (LJ.ne fc) hc, X.same (Same.rm sc), T.same (Same.rm sc)⟩ ⟨by walk_at "om", b1, b2, by walk_at "om", fun z hz => (zb z hz).1, fun z hz => (zb z hz).2⟩
-- @@split
/-! ### bent texts -/
@[irreducible] def sp__law_drawn_sign : Sp := fun vs H Q _ => ∃ (a : Addr) (b : Int), vs = [.ref a] ∧ LeftAt H a b ∧ b ≤ 900000 ∧ ∀ (y : Str) H', y.length ≤ 1 → Chg a H H' → LeftAt H' a (b + 8) → Q (.str y) H'
theorem drawn_sign_rd {H : Hp} {a : Addr} {b : Int} {Q : VK} {E : XK} (L : LeftAt H a b) (hb : b ≤ 900000) (q : ∀ (y : Str) H', y.length ≤ 1 → Chg a H H' → LeftAt H' a (b + 8) → Q (.str y) H') : sp__law_drawn_sign [.ref a] H Q E := by
  unfold sp__law_drawn_sign; exact ⟨a, b, rfl, L, hb, q⟩
set_option maxHeartbeats 0 in
theorem ok__law_drawn_sign {f : Addr} {fd : FuncData} (F : Fun K "_law_drawn_sign" "_law_drawn_sign" s__law_drawn_sign f fd) (N : Nm mg) (D__law_draw : Def P w K mg base CX0 2 "_law_draw" ["_law_left", "_law_base"] sp__law_draw) : FnOk P w K mg base CX0 3 f fd ["_law_left"] sp__law_drawn_sign := by
  refine F.ok sc__law_drawn_sign (fun vs H Q E h => by unfold sp__law_drawn_sign at h; obtain ⟨_, _, rfl, _⟩ := h; rfl) (fun cdv A outer s H vs Q E hr h => ?_)
  unfold sp__law_drawn_sign at h
  obtain ⟨a, b, rfl, L, hb, q⟩ := h
  have hu := hu40 hr
  have one : ∀ c : Nat, (⟨#[c]⟩ : Str).length ≤ 1 := fun c => Nat.le_refl _
  have pick : ∀ (x : Str) (d : Int), 0 ≤ d → d < x.length → ∃ c, atI x.cps.toList d = some c := fun x d h0 h1 => by
    obtain ⟨j, rfl⟩ := Int.eq_ofNat_of_zero_le h0
    have l : x.cps.toList.length = x.length := Array.length_toList
    exact ⟨_, atI_nat (List.getElem?_eq_getElem (by walk_at "om"))⟩
  refine ⟨_, (pss_cons (psIf (ptC (oEqK (K := K) rfl (by exact hu)) (pD D__law_draw hr pass0 (pa_cons (pq 0) (pa_cons pe_int pa_nil))) pe_int) (pss_one (ps_ret (peIxK (K := K) rfl pe_str (pD D__law_draw hr pass0 (pa_cons (pq 0) (pa_cons pe_int pa_nil)))))) pss_nil)
      (pss_cons (psS (i := 1) sc__law_drawn_sign.nd pe_str)
      (pss_cons (psS (i := 1) sc__law_drawn_sign.nd (pe_op oAdd (pq 1) pe_str))
      (pss_one (ps_ret (peIxK (K := K) rfl (pq 1) (pD D__law_draw hr pass0 (pa_cons (pq 0) (pa_cons (pB (cLenK (K := K) rfl) N.len_ bt_len (pa_cons (pq 1) pa_nil)) pa_nil))))))))), ?_⟩
  refine draw_rd L (by walk_at "om") (by walk_at "om") (by walk_at "om") (fun d1 H1 d10 d11 c1 L1 => ?_)
  refine br_dec (fun e0 => ?_) (fun e0 => ?_)
  · walk_at "wh"
    refine draw_rd L1 (by walk_at "om") (by walk_at "om") (by walk_at "om") (fun d2 H2 d20 d21 c2 L2 => ?_)
    walk_at "wh"
    obtain ⟨c, ec⟩ := pick (Str.ofString "0123456789 \n-+htmlbaewrds") d2 d20 (by rw [show (Str.ofString "0123456789 \n-+htmlbaewrds").length = 25 by decide +kernel]; exact d21)
    refine ⟨c, by rw [sizeLine_eq]; decide +kernel, ec, ?_⟩
    walk_at "wh"
    exact q _ H2 (one c) (c1.trans c2) (L2.up (by walk_at "om"))
  · walk_at "wh"
    refine ⟨by rw [sizeLine_eq]; decide +kernel, ?_⟩
    generalize ex : (Str.ofString " !\"#$&'()*+,-./0123456789:;<=>?@ABCDEFGHIJKLMNOPQRSTUVWXYZ" ++ Str.ofString "[\\]^_`abcdefghijklmnopqrstuvwxyz{|}~") = x
    have xl : x.length ≤ 1000 := by rw [← ex]; decide +kernel
    have x0 : 0 < x.length := by rw [← ex]; decide +kernel
    walk_at "wh"
    refine ⟨by rw [sizeLine_eq]; omega, ?_⟩
    refine draw_rd L1 (by walk_at "om") (by walk_at "om") (by walk_at "om") (fun d2 H2 d20 d21 c2 L2 => ?_)
    walk_at "wh"
    obtain ⟨c, ec⟩ := pick x d2 d20 d21
    refine ⟨c, by rw [sizeLine_eq]; omega, ec, ?_⟩
    walk_at "wh"
    exact q _ H2 (one c) (c1.trans c2) (L2.up (by walk_at "om"))
@[irreducible] def sp__law_odd_one : Sp := fun vs H Q _ => ∃ (a : Addr) (b : Int), vs = [.ref a] ∧ LeftAt H a b ∧ b ≤ 900000 ∧ ∀ (y : Str) H', y.length ≤ 200 → Chg a H H' → LeftAt H' a (b + 8) → Q (.str y) H'
theorem odd_one_rd {H : Hp} {a : Addr} {b : Int} {Q : VK} {E : XK} (L : LeftAt H a b) (hb : b ≤ 900000) (q : ∀ (y : Str) H', y.length ≤ 200 → Chg a H H' → LeftAt H' a (b + 8) → Q (.str y) H') : sp__law_odd_one [.ref a] H Q E := by
  unfold sp__law_odd_one; exact ⟨a, b, rfl, L, hb, q⟩
def ShS (n : Nat) (v : V) : Prop := ∃ y : Str, v = .str y ∧ y.length ≤ n
def LsS (H : Hp) (p : Addr) (n : Nat) : Prop := ∃ xs : List V, H p = some (.lst xs) ∧ (∀ v ∈ xs, ShS 200 v) ∧ xs.length = n
set_option maxHeartbeats 0 in
theorem ok__law_odd_one {f : Addr} {fd : FuncData} (F : Fun K "_law_odd_one" "_law_odd_one" s__law_odd_one f fd) (N : Nm mg) (D__law_draw : Def P w K mg base CX0 2 "_law_draw" ["_law_left", "_law_base"] sp__law_draw) : FnOk P w K mg base CX0 3 f fd ["_law_left"] sp__law_odd_one := by
  refine F.ok sc__law_odd_one (fun vs H Q E h => by unfold sp__law_odd_one at h; obtain ⟨_, _, rfl, _⟩ := h; rfl) (fun cdv A outer s H vs Q E hr h => ?_)
  unfold sp__law_odd_one at h
  obtain ⟨a, b, rfl, L, hb, q⟩ := h
  have hu := hu40 hr
  refine ⟨_, (pssTo (pssI_cons (psOf (psS (i := 1) sc__law_odd_one.nd (pT (cStrA hr) N.str_ bt_str (pa_cons (pe_op oAdd (pe_op oPow pe_int pe_int) (pD D__law_draw hr pass0 (pa_cons (pq 0) (pa_cons (pe_op oPow pe_int pe_int) pa_nil)))) pa_nil))))
      (pssI_cons (psIS (i := 2) sc__law_odd_one.nd (peILst (paI_cons peI_str (paI_cons peI_str (paI_cons peI_str (paI_cons peI_str (paI_cons peI_str (paI_cons peI_str (paI_cons peI_str (paI_cons peI_str paI_nil))))))))))
      (pssI_cons (psOf (psS (i := 2) sc__law_odd_one.nd (pe_op oAdd (pq 2) (peLst (pa_cons (pe_op oAdd (pe_op oAdd pe_str (pq 1)) pe_str) (pa_cons pe_str (pa_cons pe_str (pa_cons pe_str (pa_cons pe_str pa_nil)))))))))
      (pssI_cons (psOf (psS (i := 2) sc__law_odd_one.nd (pe_op oAdd (pq 2) (peLst (pa_cons pe_str (pa_cons pe_str (pa_cons pe_str (pa_cons (pe_op oAdd pe_str (pq 1)) (pa_cons pe_str (pa_cons pe_str pa_nil))))))))))
      (pssI_cons (psOf (psS (i := 2) sc__law_odd_one.nd (pe_op oAdd (pq 2) (peLst (pa_cons pe_str (pa_cons pe_str (pa_cons pe_str (pa_cons pe_str (pa_cons pe_str (pa_cons pe_str pa_nil))))))))))
      (pssI_cons (psOf (psS (i := 2) sc__law_odd_one.nd (pe_op oAdd (pq 2) (peLst (pa_cons pe_str (pa_cons pe_str (pa_cons pe_str (pa_cons pe_str (pa_cons pe_str pa_nil)))))))))
      (pssI_one (psOf (ps_ret (peIxK (K := K) rfl (pq 2) (pD D__law_draw hr pass0 (pa_cons (pq 0) (pa_cons pe_int pa_nil)))))))))))))), ?_⟩
  walk_at "st"
  walk_at "st"
  refine draw_rd L (by walk_at "om") (by walk_at "om") (by walk_at "om") (fun d1 H1 d10 d11 c1 L1 => ?_)
  refine num_rd (by unfold SmI; omega) ?_
  have fl := numS_len (n := 10000000000000000000000000000 + d1) (by unfold SmI; omega)
  generalize numS (10000000000000000000000000000 + d1) = far at fl
  walk_at "wh"
  have c1' : (Str.ofString "flow 0 -1 ").length = 10 ∧ (Str.ofString " 0").length = 2 ∧ (Str.ofString "number 0 1 -").length = 12 := by decide +kernel
  obtain ⟨e1, e2, e3⟩ := c1'
  refine newL_rd (fun p1 I1 f1 s1 h1 => ?_)
  obtain ⟨x1, h1, a1, l1⟩ : LsS I1 p1 8 := ⟨_, h1, fun v hv => by
    simp only [List.mem_cons, List.not_mem_nil, or_false] at hv
    rcases hv with rfl | rfl | rfl | rfl | rfl | rfl | rfl | rfl <;> first | exact ⟨_, rfl, by decide +kernel⟩ | exact ⟨_, rfl, by simp only [app_len]; omega⟩, rfl⟩
  walk_at "wh"
  refine ⟨by simp only [app_len, sizeLine_eq]; omega, ?_⟩
  walk_at "wh"
  refine ⟨by simp only [app_len, sizeLine_eq]; omega, ?_⟩
  refine newL_rd (fun p2 I2 f2 s2 h2 => ?_)
  obtain ⟨x2, h2, a2, l2⟩ : LsS I2 p2 5 := ⟨_, h2, fun v hv => by
    simp only [List.mem_cons, List.not_mem_nil, or_false] at hv
    rcases hv with rfl | rfl | rfl | rfl | rfl <;> first | exact ⟨_, rfl, by decide +kernel⟩ | exact ⟨_, rfl, by simp only [app_len]; omega⟩, rfl⟩
  refine cat_rd (s2 _ _ h1) h2 (by rw [sizeLine_eq]; omega) (fun p3 I3 f3 s3 h3 => ?_)
  walk_at "wh"
  refine ⟨by simp only [app_len, sizeLine_eq]; omega, ?_⟩
  refine newL_rd (fun p4 I4 f4 s4 h4 => ?_)
  obtain ⟨x4, h4, a4, l4⟩ : LsS I4 p4 6 := ⟨_, h4, fun v hv => by
    simp only [List.mem_cons, List.not_mem_nil, or_false] at hv
    rcases hv with rfl | rfl | rfl | rfl | rfl | rfl <;> first | exact ⟨_, rfl, by decide +kernel⟩ | exact ⟨_, rfl, by simp only [app_len]; omega⟩, rfl⟩
  refine cat_rd (s4 _ _ h3) h4 (by rw [sizeLine_eq, List.length_append]; omega) (fun p5 I5 f5 s5 h5 => ?_)
  refine newL_rd (fun p6 I6 f6 s6 h6 => ?_)
  obtain ⟨x6, h6, a6, l6⟩ : LsS I6 p6 6 := ⟨_, h6, fun v hv => by
    simp only [List.mem_cons, List.not_mem_nil, or_false] at hv
    rcases hv with rfl | rfl | rfl | rfl | rfl | rfl <;> first | exact ⟨_, rfl, by decide +kernel⟩ | exact ⟨_, rfl, by simp only [app_len]; omega⟩, rfl⟩
  refine cat_rd (s6 _ _ h5) h6 (by rw [sizeLine_eq]; simp only [List.length_append]; omega) (fun p7 I7 f7 s7 h7 => ?_)
  refine newL_rd (fun p8 I8 f8 s8 h8 => ?_)
  obtain ⟨x8, h8, a8, l8⟩ : LsS I8 p8 5 := ⟨_, h8, fun v hv => by
    simp only [List.mem_cons, List.not_mem_nil, or_false] at hv
    rcases hv with rfl | rfl | rfl | rfl | rfl <;> first | exact ⟨_, rfl, by decide +kernel⟩ | exact ⟨_, rfl, by simp only [app_len]; omega⟩, rfl⟩
  refine cat_rd (s8 _ _ h7) h8 (by rw [sizeLine_eq]; simp only [List.length_append]; omega) (fun p9 I9 f9 s9 h9 => ?_)
  have s19 : Same H1 I9 := (((((((s1.trans s2).trans s3).trans s4).trans s5).trans s6).trans s7).trans s8).trans s9
  refine draw_rd (L1.same s19) (by walk_at "om") (by walk_at "om") (by walk_at "om") (fun d2 J d20 d21 c2 L2 => ?_)
  have n9 : p9 ≠ a := (L1.same (((((((s1.trans s2).trans s3).trans s4).trans s5).trans s6).trans s7).trans s8)).ne f9
  have h9 := c2 _ _ n9 h9
  refine ixAny_rd h9 (by walk_at "om") (by simp only [List.length_append]; omega) ?_
  intro v hv
  obtain ⟨y, rfl, hy⟩ : ShS 200 v := by
    simp only [List.mem_append] at hv
    rcases hv with (((hv | hv) | hv) | hv) | hv
    · exact a1 v hv
    · exact a2 v hv
    · exact a4 v hv
    · exact a6 v hv
    · exact a8 v hv
  walk_at "wh"
  exact q y J hy ((c1.same s19).trans c2) (L2.up (by walk_at "om"))
/-! rows of short texts -/
theorem cutS {xs : List Str} {lo hi : Option Int} : ∃ ys : List Str, cutV (xs.map V.str) lo hi = ys.map V.str ∧ ys.length ≤ xs.length ∧ ∀ y ∈ ys, y ∈ xs := by
  unfold cutV
  refine ⟨(xs.drop (HT.sIx (xs.map V.str).length 0 lo)).take (HT.sIx (xs.map V.str).length (xs.map V.str).length hi - HT.sIx (xs.map V.str).length 0 lo), by rw [List.map_take, List.map_drop], by rw [List.length_take, List.length_drop]; omega, fun y hy => List.mem_of_mem_drop (List.mem_of_mem_take hy)⟩
def RwL (H : Hp) (p : Addr) (n : Nat) : Prop := ∃ xs : List Str, H p = some (.lst (xs.map V.str)) ∧ xs.length ≤ n ∧ ∀ x ∈ xs, x.length ≤ 300
theorem RwL.same {H H' : Hp} {p : Addr} {n : Nat} (R : RwL H p n) (s : Same H H') : RwL H' p n := by obtain ⟨xs, h, r⟩ := R; exact ⟨xs, s _ _ h, r⟩
theorem RwL.chg {H H' : Hp} {p a : Addr} {n : Nat} (R : RwL H p n) (c : Chg a H H') (e : p ≠ a) : RwL H' p n := by obtain ⟨xs, h, r⟩ := R; exact ⟨xs, c _ _ e h, r⟩
theorem RwL.cat {H : Hp} {p : Addr} {n m : Nat} {xs ys : List Str} (h : H p = some (.lst (xs.map V.str ++ ys.map V.str))) (l1 : xs.length ≤ n) (l2 : ys.length ≤ m) (r1 : ∀ x ∈ xs, x.length ≤ 300) (r2 : ∀ x ∈ ys, x.length ≤ 300) : RwL H p (n + m) :=
  ⟨xs ++ ys, by rw [h, List.map_append], by rw [List.length_append]; omega, fun x hx => (List.mem_append.mp hx).elim (r1 x) (r2 x)⟩
@[irreducible] def sp__law_many_rows : Sp := fun vs H Q _ => ∃ (a lr : Addr) (b : Int) (n : Nat), vs = [.ref a, .ref lr] ∧ LeftAt H a b ∧ b ≤ 800000 ∧ lr ≠ a ∧ RwL H lr n ∧ n ≤ 5000 ∧ ∀ p H', p ≠ a → Chg a H H' → LeftAt H' a (b + 100) → RwL H' p (3 * n + 1) → Q (.ref p) H'
theorem many_rows_rd {H : Hp} {a lr : Addr} {b : Int} {n : Nat} {Q : VK} {E : XK} (L : LeftAt H a b) (hb : b ≤ 800000) (ne : lr ≠ a) (R : RwL H lr n) (hn : n ≤ 5000) (q : ∀ p H', p ≠ a → Chg a H H' → LeftAt H' a (b + 100) → RwL H' p (3 * n + 1) → Q (.ref p) H') : sp__law_many_rows [.ref a, .ref lr] H Q E := by
  unfold sp__law_many_rows; exact ⟨a, lr, b, n, rfl, L, hb, ne, R, hn, q⟩
theorem RwL.up {H : Hp} {p : Addr} {n m : Nat} (R : RwL H p n) (h : n ≤ m) : RwL H p m := by obtain ⟨xs, e, l, r⟩ := R; exact ⟨xs, e, by walk_at "om", r⟩
set_option maxHeartbeats 0 in
theorem ok__law_many_rows {f : Addr} {fd : FuncData} (F : Fun K "_law_many_rows" "_law_many_rows" s__law_many_rows f fd) (N : Nm mg) (D__law_draw : Def P w K mg base CX0 2 "_law_draw" ["_law_left", "_law_base"] sp__law_draw) (D__law_odd_one : Def P w K mg base CX0 3 "_law_odd_one" ["_law_left"] sp__law_odd_one) : FnOk P w K mg base CX0 4 f fd ["_law_left", "_law_rows"] sp__law_many_rows := by
  refine F.ok sc__law_many_rows (fun vs H Q E h => by unfold sp__law_many_rows at h; obtain ⟨_, _, _, _, rfl, _⟩ := h; rfl) (fun cdv A outer s H vs Q E hr h => ?_)
  unfold sp__law_many_rows at h
  obtain ⟨a, lr, b, n, rfl, L, hb, ne, ⟨xs, hx, xl, xr⟩, hn, q⟩ := h
  have hu := hu40 hr
  -- what is cut, what is put together
  have odd : ∀ {y : Str}, y.length ≤ 200 → ∀ x ∈ [y], x.length ≤ 300 := fun {y} h x hx => by rw [List.mem_singleton.mp hx]; omega
  refine ⟨_, (pss_cons (psS (i := 2) sc__law_many_rows.nd (pD D__law_draw hr pass0 (pa_cons (pq 0) (pa_cons (pe_op oAdd (pB (cLenK (K := K) rfl) N.len_ bt_len (pa_cons (pq 1) pa_nil)) pe_int) pa_nil))))
      (pss_cons (psS (i := 3) sc__law_many_rows.nd (pD D__law_draw hr pass0 (pa_cons (pq 0) (pa_cons pe_int pa_nil))))
      (pss_cons (psIf (ptW (pwOr (ptC (oEqK (K := K) rfl (by exact hu)) (pq 3) pe_int) (pw_or1 (ptC (oEqK (K := K) rfl (by exact hu)) (pe_slice (slZK (K := K) rfl) (pq 1) (poSome (pq 2)) po_none) (peLst pa_nil))))) (pss_one (ps_ret (pe_op oAdd (pq 1) (peLst (pa_cons (pD D__law_odd_one hr pass0 (pa_cons (pq 0) pa_nil)) pa_nil))))) pss_nil)
      (pss_cons (psIf (ptC (oEqK (K := K) rfl (by exact hu)) (pq 3) pe_int) (pss_one (ps_ret (pe_op oAdd (pe_op oAdd (pe_slice (slZK (K := K) rfl) (pq 1) po_none (poSome (pq 2))) (pe_slice (slZK (K := K) rfl) (pq 1) (poSome (pq 2)) (poSome (pe_op oAdd (pq 2) pe_int)))) (pe_slice (slZK (K := K) rfl) (pq 1) (poSome (pq 2)) po_none)))) pss_nil)
      (pss_cons (psIf (ptC (oEqK (K := K) rfl (by exact hu)) (pq 3) pe_int) (pss_one (ps_ret (pe_op oAdd (pe_slice (slZK (K := K) rfl) (pq 1) po_none (poSome (pq 2))) (pe_slice (slZK (K := K) rfl) (pq 1) (poSome (pe_op oAdd (pq 2) pe_int)) po_none)))) pss_nil)
      (pss_cons (psIf (ptC (oEqK (K := K) rfl (by exact hu)) (pq 3) pe_int) (pss_one (ps_ret (pe_op oAdd (pe_op oAdd (pe_slice (slZK (K := K) rfl) (pq 1) po_none (poSome (pq 2))) (peLst (pa_cons (pD D__law_odd_one hr pass0 (pa_cons (pq 0) pa_nil)) pa_nil))) (pe_slice (slZK (K := K) rfl) (pq 1) (poSome (pe_op oAdd (pq 2) (pD D__law_draw hr pass0 (pa_cons (pq 0) (pa_cons pe_int pa_nil))))) po_none)))) pss_nil)
      (pss_cons (psS (i := 4) sc__law_many_rows.nd (pD D__law_draw hr pass0 (pa_cons (pq 0) (pa_cons (pB (cLenK (K := K) rfl) N.len_ bt_len (pa_cons (pq 1) pa_nil)) pa_nil))))
      (pss_cons (psS (i := 5) sc__law_many_rows.nd (pe_op oAdd (pe_slice (slZK (K := K) rfl) (pq 1) po_none (poSome (pq 2))) (pe_slice (slZK (K := K) rfl) (pq 1) (poSome (pe_op oAdd (pq 2) pe_int)) po_none)))
      (pss_one (ps_ret (pe_op oAdd (pe_op oAdd (pe_slice (slZK (K := K) rfl) (pq 5) po_none (poSome (pq 4))) (pe_slice (slZK (K := K) rfl) (pq 1) (poSome (pq 2)) (poSome (pe_op oAdd (pq 2) pe_int)))) (pe_slice (slZK (K := K) rfl) (pq 5) (poSome (pq 4)) po_none)))))))))))), ?_⟩
  refine lenL_rd hx ?_
  rw [List.length_map]
  refine draw_rd L (by walk_at "om") (by walk_at "om") (by walk_at "om") (fun at1 H1 d10 d11 c1 L1 => ?_)
  refine draw_rd L1 (by walk_at "om") (by walk_at "om") (by walk_at "om") (fun kd H2 k0 k1 c2 L2 => ?_)
  have c02 := c1.trans c2
  have hx2 := c02 _ _ ne hx
  refine br_dec (fun e0 => ?_) (fun e0 => ?_)
  · walk_at "wh"
    refine br_T ?_
    refine odd_one_rd L2 (by walk_at "om") (fun y J hy cJ LJ => ?_)
    refine newL_rd (fun p5 J5 f5 s5 h5 => ?_)
    refine cat_rd (s5 _ _ (cJ _ _ ne hx2)) h5 (by rw [List.length_map, List.length_singleton, sizeLine_eq]; omega) (fun p6 J6 f6 s6 h6 => ?_)
    walk_at "wh"
    have L6 := (LJ.same s5).same s6
    exact q p6 J6 ((LJ.same s5).ne f6) (((c02).trans cJ).same (s5.trans s6)) (L6.up (by walk_at "om")) ((RwL.cat (ys := [y]) h6 xl (m := 1) (by simp) xr (odd hy)).up (by walk_at "om"))
  refine slL_rd (SqL.of hx2) (fun p3 H3 f3 s3 h3 => ?_)
  refine newL_rd (fun p4 H4 f4 s4 h4 => ?_)
  have s24 := s3.trans s4
  have c04 := c02.same s24
  have L4 := L2.same s24
  have hx4 := s24 _ _ hx2
  refine eqO_rd (eqNil (s4 _ _ h3) h4) ?_
  refine br_dec (fun e1 => ?_) (fun e1 => ?_)
  · walk_at "wh"
    refine odd_one_rd L4 (by walk_at "om") (fun y J hy cJ LJ => ?_)
    refine newL_rd (fun p5 J5 f5 s5 h5 => ?_)
    refine cat_rd (s5 _ _ (cJ _ _ ne hx4)) h5 (by rw [List.length_map, List.length_singleton, sizeLine_eq]; omega) (fun p6 J6 f6 s6 h6 => ?_)
    walk_at "wh"
    have L6 := (LJ.same s5).same s6
    exact q p6 J6 ((LJ.same s5).ne f6) (((c04).trans cJ).same (s5.trans s6)) (L6.up (by walk_at "om")) ((RwL.cat (ys := [y]) h6 xl (m := 1) (by simp) xr (odd hy)).up (by walk_at "om"))
  have x1 : 1 ≤ xs.length := by
    rcases Nat.eq_zero_or_pos xs.length with z | z
    · refine absurd ?_ e1
      obtain ⟨ys, e, l2, _⟩ := cutS (xs := xs) (lo := some at1) (hi := none)
      rw [e, List.length_eq_zero_iff.mp (by walk_at "om" : ys.length = 0)]
      rfl
    · exact z
  refine br_dec (fun e2 => ?_) (fun e2 => ?_)
  · walk_at "wh"
    refine slL_rd (SqL.of hx4) (fun p5 H5 f5 s5 h5 => ?_)
    refine slL_rd (SqL.of (s5 _ _ hx4)) (fun p6 H6 f6 s6 h6 => ?_)
    obtain ⟨y5, e5, l5, m5⟩ := cutS (xs := xs) (lo := none) (hi := some at1)
    obtain ⟨y6, e6, l6, m6⟩ := cutS (xs := xs) (lo := some at1) (hi := some (at1 + 1))
    obtain ⟨y8, e8, l8, m8⟩ := cutS (xs := xs) (lo := some at1) (hi := none)
    rw [e5] at h5
    rw [e6] at h6
    refine cat_rd (s6 _ _ h5) h6 (by rw [List.length_map, List.length_map, sizeLine_eq]; omega) (fun p7 H7 f7 s7 h7 => ?_)
    refine slL_rd (SqL.of (((s5.trans s6).trans s7) _ _ hx4)) (fun p8 H8 f8 s8 h8 => ?_)
    rw [e8] at h8
    rw [← List.map_append] at h7
    refine cat_rd (s8 _ _ h7) h8 (by rw [List.length_map, List.length_map, List.length_append, sizeLine_eq]; omega) (fun p9 H9 f9 s9 h9 => ?_)
    walk_at "wh"
    have s48 := ((s5.trans s6).trans s7).trans s8
    exact q p9 H9 ((L4.same s48).ne f9) (c04.same (s48.trans s9)) ((L4.same (s48.trans s9)).up (by walk_at "om")) ((RwL.cat (n := 2 * n) (m := n) h9 (by rw [List.length_append]; omega) (by walk_at "om") (fun x hx => (List.mem_append.mp hx).elim (fun h => xr x (m5 x h)) (fun h => xr x (m6 x h))) (fun x hx => xr x (m8 x hx))).up (by walk_at "om"))
  refine br_dec (fun e3 => ?_) (fun e3 => ?_)
  · walk_at "wh"
    refine slL_rd (SqL.of hx4) (fun p5 H5 f5 s5 h5 => ?_)
    refine slL_rd (SqL.of (s5 _ _ hx4)) (fun p6 H6 f6 s6 h6 => ?_)
    obtain ⟨y5, e5, l5, m5⟩ := cutS (xs := xs) (lo := none) (hi := some at1)
    obtain ⟨y6, e6, l6, m6⟩ := cutS (xs := xs) (lo := some (at1 + 1)) (hi := none)
    rw [e5] at h5
    rw [e6] at h6
    refine cat_rd (s6 _ _ h5) h6 (by rw [List.length_map, List.length_map, sizeLine_eq]; omega) (fun p7 H7 f7 s7 h7 => ?_)
    walk_at "wh"
    have s46 := s5.trans s6
    exact q p7 H7 ((L4.same s46).ne f7) (c04.same (s46.trans s7)) ((L4.same (s46.trans s7)).up (by walk_at "om")) ((RwL.cat (n := n) (m := n) h7 (by walk_at "om") (by walk_at "om") (fun x h => xr x (m5 x h)) (fun x h => xr x (m6 x h))).up (by walk_at "om"))
  refine br_dec (fun e4 => ?_) (fun e4 => ?_)
  · walk_at "wh"
    refine slL_rd (SqL.of hx4) (fun p5 H5 f5 s5 h5 => ?_)
    obtain ⟨y5, e5, l5, m5⟩ := cutS (xs := xs) (lo := none) (hi := some at1)
    rw [e5] at h5
    have n5 : p5 ≠ a := L4.ne f5
    refine odd_one_rd (L4.same s5) (by walk_at "om") (fun y J hy cJ LJ => ?_)
    refine newL_rd (fun p6 H6 f6 s6 h6 => ?_)
    refine cat_rd (s6 _ _ (cJ _ _ n5 h5)) h6 (by rw [List.length_map, List.length_singleton, sizeLine_eq]; omega) (fun p7 H7 f7 s7 h7 => ?_)
    have L7 := (LJ.same s6).same s7
    have n7 : p7 ≠ a := (LJ.same s6).ne f7
    have hx7 := (s6.trans s7) _ _ (cJ _ _ ne (s5 _ _ hx4))
    refine draw_rd L7 (by walk_at "om") (by walk_at "om") (by walk_at "om") (fun d8 H8 d80 d81 c8 L8 => ?_)
    refine slL_rd (SqL.of (c8 _ _ ne hx7)) (fun p9 H9 f9 s9 h9 => ?_)
    obtain ⟨y9, e9, l9, m9⟩ := cutS (xs := xs) (lo := some (at1 + d8)) (hi := none)
    rw [e9] at h9
    have h7 : H7 p7 = some (.lst ((y5 ++ [y]).map V.str)) := by rw [h7, List.map_append]; rfl
    refine cat_rd (s9 _ _ (c8 _ _ n7 h7)) h9 (by rw [List.length_map, List.length_map, List.length_append, List.length_singleton, sizeLine_eq]; omega) (fun p10 H10 f10 s10 h10 => ?_)
    walk_at "wh"
    exact q p10 H10 ((L8.same s9).ne f10) (((((c04.same s5).trans cJ).same (s6.trans s7)).trans c8).same (s9.trans s10)) ((L8.same (s9.trans s10)).up (by walk_at "om")) ((RwL.cat (n := n + 1) (m := n) h10 (by rw [List.length_append, List.length_singleton]; omega) (by walk_at "om") (fun x hx => (List.mem_append.mp hx).elim (fun h => xr x (m5 x h)) (odd hy x)) (fun x h => xr x (m9 x h))).up (by walk_at "om"))
  refine lenL_rd hx4 ?_
  rw [List.length_map]
  refine draw_rd L4 (by walk_at "om") (by walk_at "om") (by walk_at "om") (fun ot H5 o0 o1 c5 L5 => ?_)
  have hx5 := c5 _ _ ne hx4
  have c05 := c04.trans c5
  refine slL_rd (SqL.of hx5) (fun p6 H6 f6 s6 h6 => ?_)
  refine slL_rd (SqL.of (s6 _ _ hx5)) (fun p7 H7 f7 s7 h7 => ?_)
  obtain ⟨y6, e6, l6, m6⟩ := cutS (xs := xs) (lo := none) (hi := some at1)
  obtain ⟨y7, e7, l7, m7⟩ := cutS (xs := xs) (lo := some (at1 + 1)) (hi := none)
  rw [e6] at h6
  rw [e7] at h7
  refine cat_rd (s7 _ _ h6) h7 (by rw [List.length_map, List.length_map, sizeLine_eq]; omega) (fun p8 H8 f8 s8 h8 => ?_)
  rw [← List.map_append] at h8
  have s58 := (s6.trans s7).trans s8
  have hx8 := s58 _ _ hx5
  have mr : ∀ x ∈ y6 ++ y7, x.length ≤ 300 := fun x hx => (List.mem_append.mp hx).elim (fun h => xr x (m6 x h)) (fun h => xr x (m7 x h))
  have lr8 : (y6 ++ y7).length ≤ 2 * n := by rw [List.length_append]; omega
  -- the parts of it: at most as many as there are, as the one left out stands at one place
  have l67 : (y6 ++ y7).length ≤ xs.length := by
    have h1 := congrArg List.length e6
    have h2 := congrArg List.length e7
    rw [cut_takeV (by walk_at "om"), List.length_take, List.length_map, List.length_map] at h1
    rw [cut_drop (by walk_at "om"), List.length_drop, List.length_map, List.length_map] at h2
    rw [List.length_append]
    omega
  generalize y6 ++ y7 = yr at h8 mr l67
  refine slL_rd (SqL.of h8) (fun p9 H9 f9 s9 h9 => ?_)
  refine slL_rd (SqL.of (s9 _ _ hx8)) (fun p10 H10 f10 s10 h10 => ?_)
  obtain ⟨y9, e9, l9, m9⟩ := cutS (xs := yr) (lo := none) (hi := some ot)
  obtain ⟨y10, e10, l10, m10⟩ := cutS (xs := xs) (lo := some at1) (hi := some (at1 + 1))
  obtain ⟨y12, e12, l12, m12⟩ := cutS (xs := yr) (lo := some ot) (hi := none)
  rw [e9] at h9
  rw [e10] at h10
  refine cat_rd (s10 _ _ h9) h10 (by rw [List.length_map, List.length_map, sizeLine_eq]; omega) (fun p11 H11 f11 s11 h11 => ?_)
  rw [← List.map_append] at h11
  refine slL_rd (SqL.of (((s9.trans s10).trans s11) _ _ h8)) (fun p12 H12 f12 s12 h12 => ?_)
  rw [e12] at h12
  refine cat_rd (s12 _ _ h11) h12 (by rw [List.length_map, List.length_map, List.length_append, sizeLine_eq]; omega) (fun p13 H13 f13 s13 h13 => ?_)
  walk_at "wh"
  have s812 := ((s9.trans s10).trans s11).trans s12
  have s512 := s58.trans s812
  exact q p13 H13 ((L5.same s512).ne f13) (c05.same (s512.trans s13)) ((L5.same (s512.trans s13)).up (by walk_at "om")) ((RwL.cat (n := 2 * n) (m := n) h13 (by rw [List.length_append]; omega) (by walk_at "om") (fun x hx => (List.mem_append.mp hx).elim (fun h => mr x (m9 x h)) (fun h => xr x (m10 x h))) (fun x h => mr x (m12 x h))).up (by walk_at "om"))
-- @@split
theorem join_short {xs : List Str} {n m : Nat} (l : xs.length ≤ n) (r : ∀ x ∈ xs, x.length ≤ m) : (Txt.join (Str.ofString "") (xs.map fun x => x ++ lineE)).length ≤ n * (m + 1) := by
  have h1 := joined_len (Str.ofString "") (xs.map fun x => x ++ lineE)
  have h2 := lens_le (xs := xs.map fun x => x ++ lineE) (m := m + 1) fun x hx => by
    obtain ⟨y, hy, rfl⟩ := List.mem_map.mp hx
    rw [app_len]
    have := r y hy
    show y.length + 1 ≤ m + 1
    omega
  rw [List.length_map] at h1 h2
  have e0 : (Str.ofString "").length = 0 := by decide +kernel
  rw [e0] at h1
  have := Nat.mul_le_mul_right (m + 1) l
  omega
theorem join_room {xs : List Str} {n m : Nat} (l : xs.length ≤ n) (r : ∀ x ∈ xs, x.length ≤ m) (h : n * (m + 1) ≤ 16000000) : ((xs.map fun x => x ++ lineE).map (·.length)).sum + (xs.map fun x => x ++ lineE).length * (0 : Nat) ≤ 16777216 := by
  have h2 := lens_le (xs := xs.map fun x => x ++ lineE) (m := m + 1) fun x hx => by
    obtain ⟨y, hy, rfl⟩ := List.mem_map.mp hx
    rw [app_len]
    have := r y hy
    show y.length + 1 ≤ m + 1
    omega
  rw [List.length_map] at h2 ⊢
  have := Nat.mul_le_mul_right (m + 1) l
  omega
@[irreducible] def sp__law_bent_text : Sp := fun vs H Q _ => ∃ (a lr : Addr) (b : Int), vs = [.ref a, .ref lr] ∧ LeftAt H a b ∧ b ≤ 100000 ∧ lr ≠ a ∧ RwL H lr 400 ∧ ∀ (y : Str) H', y.length ≤ 5000 → Chg a H H' → LeftAt H' a (b + 1000) → Q (.str y) H'
theorem bent_text_rd {H : Hp} {a lr : Addr} {b : Int} {Q : VK} {E : XK} (L : LeftAt H a b) (hb : b ≤ 100000) (ne : lr ≠ a) (R : RwL H lr 400) (q : ∀ (y : Str) H', y.length ≤ 5000 → Chg a H H' → LeftAt H' a (b + 1000) → Q (.str y) H') : sp__law_bent_text [.ref a, .ref lr] H Q E := by
  unfold sp__law_bent_text; exact ⟨a, lr, b, rfl, L, hb, ne, R, q⟩
def RwB : Nat → Nat
  | 0 => 400
  | i + 1 => 3 * RwB i + 1
theorem RwB_le : RwB 0 ≤ 400 ∧ RwB 1 ≤ 1201 ∧ RwB 2 ≤ 3604 := by decide
theorem slice_5000 (x : Str) : (Txt.slice x none (some 5000)).length ≤ 5000 := by
  have h := PyProof.Rows.fact_slice_ns x 5000
  have l := Txt.slice_le x none (some 5000)
  by_cases hx : (5000 : Int) ≤ x.length
  · have := h.1 (by decide) hx
    omega
  · omega
set_option maxHeartbeats 0 in
theorem ok__law_bent_text {f : Addr} {fd : FuncData} (F : Fun K "_law_bent_text" "_law_bent_text" s__law_bent_text f fd) (N : Nm mg) (D__law_draw : Def P w K mg base CX0 2 "_law_draw" ["_law_left", "_law_base"] sp__law_draw) (D__law_drawn_sign : Def P w K mg base CX0 3 "_law_drawn_sign" ["_law_left"] sp__law_drawn_sign) (D__law_many_rows : Def P w K mg base CX0 4 "_law_many_rows" ["_law_left", "_law_rows"] sp__law_many_rows) : FnOk P w K mg base CX0 5 f fd ["_law_left", "_law_rows"] sp__law_bent_text := by
  refine F.ok sc__law_bent_text (fun vs H Q E h => by unfold sp__law_bent_text at h; obtain ⟨_, _, _, rfl, _⟩ := h; rfl) (fun cdv A outer s H vs Q E hr h => ?_)
  unfold sp__law_bent_text at h
  obtain ⟨a, lr, b, rfl, L, hb, ne, R, q⟩ := h
  have hu := hu40 hr
  refine ⟨_, (pss_cons (psFor PassesOwn.never rfl (piRng1 N.range_ (pa_cons (pD D__law_draw hr pass0 (pa_cons (pq 0) (pa_cons pe_int pa_nil))) pa_nil)) (pg_name (i := 2) sc__law_bent_text.nd rfl (by first | exact Or.inl rfl | exact Or.inr rfl)) (pss_one (psS (i := 1) sc__law_bent_text.nd (pD D__law_many_rows hr pass0 (pa_cons (pq 0) (pa_cons (pq 1) pa_nil))))))
      (pss_cons (psS (i := 3) sc__law_bent_text.nd (peM_join (K := K) rfl pe_str (pa_cons (peComp (N := ["_law_row"]) (ks := [none]) (piSeqK (K := K) rfl (pq 1)) (fun cl C s3 H3 fp => (pg_name (i := 0) nb_4 rfl (by first | exact Or.inl rfl | exact Or.inr rfl))) (fun cl C s3 H3 fp => pts_nil) (fun cl C s3 H3 fp => (pe_op oAdd (pq 0) pe_str)) (.skip .nil)) pa_nil)))
      (pss_cons (psFor PassesOwn.never rfl (piRng1 N.range_ (pa_cons (pD D__law_draw hr pass0 (pa_cons (pq 0) (pa_cons pe_int pa_nil))) pa_nil)) (pg_name (i := 2) sc__law_bent_text.nd rfl (by first | exact Or.inl rfl | exact Or.inr rfl)) (pss_cons (psS (i := 4) sc__law_bent_text.nd (pD D__law_draw hr pass0 (pa_cons (pq 0) (pa_cons (pe_op oAdd (pB (cLenK (K := K) rfl) N.len_ bt_len (pa_cons (pq 3) pa_nil)) pe_int) pa_nil))))
      (pss_cons (psS (i := 5) sc__law_bent_text.nd (pD D__law_draw hr pass0 (pa_cons (pq 0) (pa_cons pe_int pa_nil))))
      (pss_one (psS (i := 3) sc__law_bent_text.nd (pe_op oAdd (pe_op oAdd (pe_slice (slZK (K := K) rfl) (pq 3) po_none (poSome (pq 4))) (peIxK (K := K) rfl (peLst (pa_cons (pD D__law_drawn_sign hr pass0 (pa_cons (pq 0) pa_nil)) (pa_cons pe_str (pa_cons (pD D__law_drawn_sign hr pass0 (pa_cons (pq 0) pa_nil)) pa_nil)))) (pq 5))) (pe_slice (slZK (K := K) rfl) (pq 3) (poSome (pe_op oAdd (pq 4) (pT cInt N.int_ bt_int (pa_cons (peC oGt (pq 5) pe_int) pa_nil)))) po_none)))))))
      (pss_cons (psCut (psIf (ptC (oEqK (K := K) rfl (by exact hu)) (pD D__law_draw hr pass0 (pa_cons (pq 0) (pa_cons pe_int pa_nil))) pe_int) (pss_one (psS (i := 3) sc__law_bent_text.nd (pe_slice (slZK (K := K) rfl) (pq 3) po_none (poSome (pe_un uNeg pe_int))))) pss_nil))
      (pss_one (ps_ret (pe_slice (slZK (K := K) rfl) (pq 3) po_none (poSome pe_int)))))))), ?_⟩
  refine draw_rd L (by walk_at "om") (by walk_at "om") (by walk_at "om") (fun d1 H1 d10 d11 c1 L1 => ?_)
  refine range_rd (by decide) (by decide) (by walk_at "om") (by walk_at "om") ?_
  obtain ⟨m1, em1⟩ : ∃ m : Nat, (d1 - 0).toNat = m := ⟨_, rfl⟩
  rw [em1]
  refine loop_range (fun i σ I => ∃ (t2 : Option V) (p : Addr), σ = [some (.ref a), some (.ref p), t2, none, none, none] ∧ Chg a H I ∧ LeftAt I a (b + 4 + 100 * i) ∧ p ≠ a ∧ RwL I p (RwB i)) ?_ ?_ ?_
  · exact ⟨_, lr, rfl, c1, L1.up (by walk_at "om"), ne, R.chg c1 ne⟩
  · rintro i σ I hi ⟨t2, p, rfl, cI, LI, np, RI⟩
    have hb2 : RwB i ≤ 5000 := by
      have := RwB_le
      have hi2 : i = 0 ∨ i = 1 := by walk_at "om"
      rcases hi2 with rfl | rfl <;> omega
    refine many_rows_rd LI (by walk_at "om") np RI hb2 (fun p' J np' cJ LJ RJ => ?_)
    walk_at "wh"
    exact ⟨_, p', rfl, cI.trans cJ, LJ.up (by walk_at "om"), np', RJ⟩
  · rintro σ I ⟨t2, p, rfl, cI, LI, np, ⟨xs, hx, xl, xr⟩⟩
    have xl : xs.length ≤ 3700 := by
      have := RwB_le
      have hi2 : m1 = 0 ∨ m1 = 1 ∨ m1 = 2 := by walk_at "om"
      rcases hi2 with z | z | z <;> rw [z] at xl <;> omega
    have LI : LeftAt I a (b + 300) := LI.up (by walk_at "om")
    refine iterL_rd hx ?_
    refine comp_I (n := (xs.map V.str).length) (Wk.list (SqL.of hx)) (by rw [List.length_map, sizeLine_eq]; omega) (fun j => .str ((xs.map fun x => x ++ lineE).getD j ⟨#[]⟩)) (fun _ => true) (fun j σ => ∃ t : Option V, σ = [t]) ⟨none, rfl⟩ ?_ ?_
    · rintro j x σ J R' S' hj sJ hx' ⟨_, rfl⟩ kk _
      rw [List.getElem?_map] at hx'
      obtain ⟨r, er, rfl⟩ := Option.map_eq_some_iff.mp hx'
      have ln := xr r (List.mem_of_getElem? er)
      rw [show (xs.map fun x => x ++ lineE).getD j ⟨#[]⟩ = r ++ lineE by rw [List.getD_eq_getElem?_getD, List.getElem?_map, er]; rfl] at kk
      refine br_T ?_
      walk_at "wh"
      refine ⟨by show r.length + 1 ≤ sizeLine; rw [sizeLine_eq]; omega, ?_⟩
      walk_at "wh"
      exact kk rfl _ _ (Same.refl _) ⟨_, rfl⟩
    intro la I2 g2 s2 h2
    rw [filter_T, range_vals (f := V.str) (xs := xs.map fun x => x ++ lineE) (d := ⟨#[]⟩) (by rw [List.length_map, List.length_map])] at h2
    refine join_rd h2 (join_room xl xr (by decide)) ?_
    have tl := join_short xl xr
    generalize Txt.join (Str.ofString "") (xs.map fun x => x ++ lineE) = tx at tl
    have tl : tx.length ≤ 1200000 := by walk_at "om"
    have c2 := cI.same s2
    refine draw_rd (LI.same s2) (by walk_at "om") (by walk_at "om") (by walk_at "om") (fun d3 I3 d30 d31 c3 L3 => ?_)
    refine range_rd (by decide) (by decide) (by walk_at "om") (by walk_at "om") ?_
    obtain ⟨m2, em2⟩ : ∃ m : Nat, (d3 - 0).toNat = m := ⟨_, rfl⟩
    rw [em2]
    refine loop_range (fun i σ I => ∃ (t2 t4 t5 : Option V) (y : Str), σ = [some (.ref a), some (.ref p), t2, some (.str y), t4, t5] ∧ Chg a H I ∧ LeftAt I a (b + 304 + 30 * i) ∧ y.length + 1 ≤ 1200001 * 2 ^ i) ?_ ?_ ?_
    · exact ⟨_, _, _, tx, rfl, c2.trans c3, L3.up (by walk_at "om"), by walk_at "om"⟩
    · rintro i σ J hi ⟨t2, t4, t5, y, rfl, cJ, LJ, yl⟩
      have p2 : 2 ^ (i + 1) = 2 * 2 ^ i := by rw [Nat.pow_succ, Nat.mul_comm]
      have yl' : y.length ≤ 4800004 := by
        have hi2 : 2 ^ i ≤ 2 := by
          have hi3 : i = 0 ∨ i = 1 := by walk_at "om"
          rcases hi3 with z | z <;> rw [z] <;> decide
        have := Nat.mul_le_mul_left 1200001 hi2
        omega
      walk_at "wh"
      refine ⟨by rw [sizeLine_eq]; omega, ?_⟩
      refine draw_rd LJ (by walk_at "om") (by walk_at "om") (by walk_at "om") (fun at1 J1 a0 a1 c4 L4 => ?_)
      refine draw_rd L4 (by walk_at "om") (by walk_at "om") (by walk_at "om") (fun wy J2 w0 w1 c5 L5 => ?_)
      walk_at "wh"
      refine ⟨by rw [sizeLine_eq]; omega, ?_⟩
      have la := Txt.slice_le y none (some at1)
      refine drawn_sign_rd L5 (by walk_at "om") (fun y6 J3 l6 c6 L6 => ?_)
      refine drawn_sign_rd L6 (by walk_at "om") (fun y7 J4 l7 c7 L7 => ?_)
      refine newL_rd (fun p8 J5 f8 s8 h8 => ?_)
      refine ixAny_rd h8 (by walk_at "om") (by simp only [List.length_cons, List.length_nil]; omega) ?_
      intro v hv
      obtain ⟨u, rfl, lu⟩ : ShS 1 v := by
        simp only [List.mem_cons, List.not_mem_nil, or_false] at hv
        rcases hv with rfl | rfl | rfl
        · exact ⟨_, rfl, l6⟩
        · exact ⟨_, rfl, by decide +kernel⟩
        · exact ⟨_, rfl, l7⟩
      clear hv
      walk_at "wh"
      refine ⟨by simp only [app_len, sizeLine_eq]; omega, ?_⟩
      walk_at "wh"
      refine ⟨by rw [sizeLine_eq]; omega, ?_⟩
      walk_at "wh"
      have lb : ∀ o, (Txt.slice y (some o) none).length ≤ y.length := fun o => Txt.slice_le y (some o) none
      refine ⟨by simp only [app_len, sizeLine_eq]; have := lb (at1 + (if decide (0 < wy) = true then 1 else 0)); omega, ?_⟩
      walk_at "wh"
      refine ⟨_, _, _, _, rfl, ((((cJ.trans c4).trans c5).trans c6).trans c7).same s8, (L7.same s8).up (by walk_at "om"), ?_⟩
      simp only [app_len]
      have := lb (at1 + if decide (0 < wy) = true then 1 else 0)
      have h2 : 1200001 * 2 ^ (i + 1) = 2 * (1200001 * 2 ^ i) := by rw [p2, Nat.mul_left_comm]
      rw [h2]
      omega
    · rintro σ J ⟨t2, t4, t5, y, rfl, cJ, LJ, yl⟩
      have yl' : y.length ≤ 4800004 := by
        have hi2 : 2 ^ m2 ≤ 4 := by
          have hi3 : m2 = 0 ∨ m2 = 1 ∨ m2 = 2 := by walk_at "om"
          rcases hi3 with z | z | z <;> rw [z] <;> decide
        have := Nat.mul_le_mul_left 1200001 hi2
        omega
      have LJ : LeftAt J a (b + 400) := LJ.up (by walk_at "om")
      refine cut_rd (fun σ I => ∃ y : Str, σ = [some (.ref a), some (.ref p), t2, some (.str y), t4, t5] ∧ Chg a H I ∧ LeftAt I a (b + 404) ∧ y.length ≤ 4800004) ?_ ?_
      · walk_at "wh"
        refine draw_rd LJ (by walk_at "om") (by walk_at "om") (by walk_at "om") (fun d J1 d0 d1 c4 L4 => ?_)
        refine br_dec (fun e => ?_) (fun e => ?_)
        · walk_at "wh"
          refine ⟨by rw [sizeLine_eq]; omega, ?_⟩
          walk_at "wh"
          exact ⟨_, rfl, cJ.trans c4, L4.up (by walk_at "om"), Nat.le_trans (Txt.slice_le _ _ _) yl'⟩
        · walk_at "wh"
          exact ⟨y, rfl, cJ.trans c4, L4.up (by walk_at "om"), yl'⟩
      rintro σ I ⟨y, rfl, cI, LI, yl⟩
      walk_at "wh"
      refine ⟨by rw [sizeLine_eq]; omega, ?_⟩
      walk_at "wh"
      exact q _ I (slice_5000 y) cI (LI.up (by walk_at "om"))
-- @@split
/-! ### texts of no paper: the law -/
theorem rtext_len4 {r : Rw} (h : RgR r) (o : OkR r) : (rtext r).length ≤ 300 := by
  have h1 := joined_len blank (r.1 :: r.2.map numS)
  have h2 := lens_le (words_len o)
  have e : blank.length = 1 := rfl
  have l : r.2.length ≤ 4 := by rcases h with ⟨_, h⟩ | ⟨_, h⟩ <;> omega
  rw [List.length_cons, List.length_map] at h1 h2
  rw [e] at h1
  unfold rtext
  have := Nat.mul_le_mul_right 52 (show r.2.length + 1 ≤ 5 by walk_at "om")
  omega
theorem PpX.eq {K : PySem.W.Frag} {H : Hp} {p p' st st' tb tb' : Addr} {rs rs' : List (Addr × List Addr)} {xss : List (List F3)} {qs qs' : List Addr} {nss : List (List Int)} (A : PpX H p st tb rs xss qs nss) (B : PpX H p' st' tb' rs' xss qs' nss) : EqR K H 4 (.ref p) (.ref p') true := by
  have flat : ∀ {n : Nat} (i : Int), EqR K H n (.int i) (.int i) true := fun {n} i => by
    have := EqR.flat (K := K) (H := H) (n := n) (x := .int i) (y := .int i) rfl rfl
    rwa [eqV_self rfl] at this
  have lens := A.stm.len
  have lens' := B.stm.len
  have lent := A.tab.len
  have lent' := B.tab.len
  exact EqR.tup (K := K) (H := H) (n := 3) (fun _ => true) (SqT.of A.out) (SqT.of B.out) (fun j x y hx hy => by
    match j with
    | 0 =>
      cases hx; cases hy
      refine EqR.allT (SqL.of A.stm.out) (SqL.of B.stm.out) (by rw [List.length_map, List.length_map, lens, lens']) fun i u v hu hv => ?_
      rw [List.getElem?_map] at hu hv
      obtain ⟨r, er, rfl⟩ := Option.map_eq_some_iff.mp hu
      obtain ⟨r', er', rfl⟩ := Option.map_eq_some_iff.mp hv
      obtain ⟨xs, ex⟩ : ∃ z, xss[i]? = some z := ⟨_, List.getElem?_eq_getElem (by have := (List.getElem?_eq_some_iff.mp er).1; omega)⟩
      have RA := A.stm.row i r xs er ex
      have RB := B.stm.row i r' xs er' ex
      refine EqR.allT (n := 1) (SqL.of RA.out) (SqL.of RB.out) (by rw [List.length_map, List.length_map, RA.len, RB.len]) fun k u v hu hv => ?_
      rw [List.getElem?_map] at hu hv
      obtain ⟨b, eb, rfl⟩ := Option.map_eq_some_iff.mp hu
      obtain ⟨b', eb', rfl⟩ := Option.map_eq_some_iff.mp hv
      obtain ⟨z, ez⟩ : ∃ z, xs[k]? = some z := ⟨_, List.getElem?_eq_getElem (by have := (List.getElem?_eq_some_iff.mp eb).1; have := RA.len; omega)⟩
      exact EqR.tup (K := K) (H := H) (n := 0) (fun _ => true) (SqT.of (RA.row k b z eb ez)) (SqT.of (RB.row k b' z eb' ez)) (fun j x y hx hy => by
        match j with
        | 0 => cases hx; cases hy; exact flat _
        | 1 => cases hx; cases hy; exact flat _
        | 2 => cases hx; cases hy; exact flat _
        | j + 3 => simp at hx)
    | 1 =>
      cases hx; cases hy
      refine EqR.allT (SqL.of A.tab.out) (SqL.of B.tab.out) (by rw [List.length_map, List.length_map, lent, lent']) fun i u v hu hv => ?_
      rw [List.getElem?_map] at hu hv
      obtain ⟨r, er, rfl⟩ := Option.map_eq_some_iff.mp hu
      obtain ⟨r', er', rfl⟩ := Option.map_eq_some_iff.mp hv
      obtain ⟨ns, ex⟩ : ∃ z, nss[i]? = some z := ⟨_, List.getElem?_eq_getElem (by have := (List.getElem?_eq_some_iff.mp er).1; omega)⟩
      have RA := A.tab.row i r ns er ex
      have RB := B.tab.row i r' ns er' ex
      refine EqR.allT (n := 1) (SqL.of RA) (SqL.of RB) rfl fun k u v hu hv => ?_
      rw [hu] at hv
      cases hv
      rw [List.getElem?_map] at hu
      obtain ⟨m, _, rfl⟩ := Option.map_eq_some_iff.mp hu
      exact flat _
    | j + 2 => simp at hx)
def spLaw (K : PySem.W.Frag) : Sp := fun vs H Q _ => ∃ (a : Addr) (ns : List Int), vs = [.ref a] ∧ SqL K H a (ns.map V.int) ∧ ns.length ≤ 63 ∧ ∀ H', Q (.bl true) H'
theorem script_len20 {ns : List Int} (h : ns.length ≤ 63) : [V.int 3].length + (cutV (ns.map V.int) none (some 20)).length ≤ sizeLine := by
  rw [cut_takeV (by decide), List.length_take, List.length_map, sizeLine_eq, List.length_singleton]; omega
theorem script_int20 {ns : List Int} {i : Nat} {x : V} (h : ([V.int 3] ++ cutV (ns.map V.int) none (some 20))[i]? = some x) : ∃ z, x = .int z := by
  rw [cut_takeV (by decide)] at h
  rcases List.mem_append.mp (List.mem_of_getElem? h) with h | h
  · exact ⟨3, by simpa using h⟩
  · obtain ⟨z, _, rfl⟩ := List.mem_map.mp (List.mem_of_mem_take h)
    exact ⟨z, rfl⟩
set_option maxHeartbeats 0 in
theorem ok_law {f : Addr} {fd : FuncData} (F : Fun K "law" "law" s_law f fd) (N : Nm mg) (D__law_bent_text : Def P w K mg base CX0 5 "_law_bent_text" ["_law_left", "_law_rows"] sp__law_bent_text) (D__law_drawn_paper : Def P w K mg base CX0 3 "_law_drawn_paper" ["_law_left"] sp__law_drawn_paper) (D__law_due_of : Def P w K mg base CX0 4 "_law_due_of" ["_law_text"] sp__law_due_of) (D__law_opened : Def P w K mg base CX0 1 "_law_opened" ["_law_cell"] sp__law_opened) (D__law_rows_of : Def P w K mg base CX0 1 "_law_rows_of" ["_law_paper"] sp__law_rows_of) (D__law_told_of : Def P w K mg base CX0 6 "_law_told_of" ["_law_text"] sp__law_told_of) : FnOk P w K mg base CX0 7 f fd ["_law_script"] (spLaw K) := by
  refine F.ok sc_law (fun vs H Q E h => by obtain ⟨n, k, rfl, _⟩ := h; rfl) (fun cdv A outer s H vs Q E hr h => ?_)
  obtain ⟨a, ns0, rfl, hS, hlen, k⟩ := h
  have hu := hu40 hr
  refine ⟨_, (pss_cons (psFor PassesOwn.never rfl (piSeqK (K := K) rfl (pe_op oAdd (peLst (pa_cons pe_int pa_nil)) (pe_slice (slZK (K := K) rfl) (pq 0) po_none (poSome pe_int)))) (pg_name (i := 1) sc_law.nd rfl (by first | exact Or.inl rfl | exact Or.inr rfl)) (pss_cons (psS (i := 2) sc_law.nd (pD D__law_opened hr pass0 (pa_cons (pq 1) pa_nil)))
      (pss_cons (psS (i := 3) sc_law.nd (pD D__law_rows_of hr pass0 (pa_cons (pD D__law_drawn_paper hr pass0 (pa_cons (pq 2) pa_nil)) pa_nil)))
      (pss_cons (psC (i := 4) (N := ["_law_row", "_law_cell"]) (ks := [none, some 1]) sc_law.nd (piSeqK (K := K) rfl (pq 3)) (fun cl C s3 H3 fp => (pg_name (i := 0) nb_6 rfl (by first | exact Or.inl rfl | exact Or.inr rfl))) (fun cl C s3 H3 fp => (pts_one (ptC (oEqK (K := K) rfl (by exact hu)) (pe_slice (slZK (K := K) rfl) (pq 0) po_none (poSome pe_int)) (peIxK (K := K) rfl (peLst (pa_cons pe_str (pa_cons pe_str pa_nil))) (pe_op oMod (pq 1) pe_int))))) (fun cl C s3 H3 fp => (pq 0)) (.skip (.take rfl rfl (by first | exact Or.inl rfl | exact Or.inr rfl) .nil)))
      (pss_cons (psS (i := 5) sc_law.nd (pD D__law_bent_text hr pass0 (pa_cons (pq 2) (pa_cons (pq 3) pa_nil))))
      (pss_one (psFor PassesOwn.never rfl (piSeqK (K := K) rfl (peLst (pa_cons (pq 5) (pa_cons pe_str (pa_cons (peM_join (K := K) rfl pe_str (pa_cons (peComp (N := ["_law_row"]) (ks := [none]) (piSeqK (K := K) rfl (pq 4)) (fun cl C s3 H3 fp => (pg_name (i := 0) nb_7 rfl (by first | exact Or.inl rfl | exact Or.inr rfl))) (fun cl C s3 H3 fp => pts_nil) (fun cl C s3 H3 fp => (pe_op oAdd (pq 0) pe_str)) (.skip .nil)) pa_nil)) pa_nil))))) (pg_name (i := 6) sc_law.nd rfl (by first | exact Or.inl rfl | exact Or.inr rfl)) (pss_one (psIf (ptC (oNeK (K := K) rfl (by exact hu)) (pD D__law_told_of hr pass0 (pa_cons (pq 6) pa_nil)) (pD D__law_due_of hr pass0 (pa_cons (pq 6) pa_nil))) (pss_one (ps_ret pe_bl)) pss_nil)))))))))
      (pss_one (ps_ret pe_bl))), ?_⟩
  refine newL_rd (fun p1 H1 hf1 hs1 ha1 => ?_)
  refine slL_rd (hs1.seq hS) (fun p2 H2 hf2 hs2 ha2 => ?_)
  refine cat_rd (hs2 _ _ ha1) ha2 (script_len20 hlen) (fun p3 H3 hf3 hs3 ha3 => ?_)
  refine iterL_rd ha3 ?_
  refine loop_list (xs := [V.int 3] ++ cutV (ns0.map V.int) none (some 20)) (fun i σ H4 => ∃ x1 x2 x3 x4 x5 x6 : Option V, σ = [some (.ref a), x1, x2, x3, x4, x5, x6] ∧ Same H3 H4) ?_ ?_ ?_ ?_
  · exact ⟨_, _, _, _, _, _, rfl, Same.refl _⟩
  · rintro i σ H4 _ ⟨_, _, _, _, _, _, _, h⟩
    exact SqL.of (h _ _ ha3)
  · rintro i x σ H4 hi ⟨x1, x2, x3, x4, x5, x6, rfl, s4⟩
    obtain ⟨z, rfl⟩ := script_int20 hi
    refine opened_rd (fun pl H5 f5 s5 L5 => ?_)
    have fpl : H3 pl = none := s4.free f5
    have s35 : Same H3 H5 := s4.trans s5
    refine drawn_paper_rd L5 (by walk_at "om") (fun p' st' tb' rs' xss' qs' nss' H6 c6 L6 P6 B => ?_)
    have s36 := s35.chg fpl c6
    refine rows_of_rd (P6.same (rm_same pl H6)) B (fun lb H7 g7 s7 h7 => ?_)
    have nlb : lb ≠ pl := L6.ne g7
    obtain ⟨us, eus⟩ : ∃ us, us = (flowsR 0 xss' ++ numsR 0 nss').map rtext := ⟨_, rfl⟩
    have ul : us.length ≤ 320 := by
      have l1 := flowsR_len (l := 20) 0 (xss := xss') fun xs hx => (B.rl xs hx).2
      have l2 := numsR_len (l := 20) 0 (nss := nss') fun xs hx => (B.nl xs hx).2
      have f1 := B.fl
      have t1 := B.tl
      rw [eus, List.length_map, List.length_append]
      omega
    have ur : ∀ x ∈ us, x.length ≤ 300 := fun x hx => by
      rw [eus] at hx
      obtain ⟨r, hr, rfl⟩ := List.mem_map.mp hx
      exact rtext_len4 (rowsRg xss' nss' r hr) ((List.mem_append.mp hr).elim (B.okF r) (B.okN r))
    have h7 : H7 lb = some (.lst (us.map V.str)) := by rw [h7, eus, List.map_map]; rfl
    clear eus
    refine iterL_rd h7 ?_
    obtain ⟨wd, hwd⟩ : ∃ wd : Str, wd = if z % 2 = 0 then "flow" else "numb" := ⟨_, rfl⟩
    refine comp_I (n := (us.map V.str).length) (Wk.list (SqL.of h7)) (by rw [List.length_map, sizeLine_eq]; omega) (fun j => .str (us.getD j ⟨#[]⟩)) (fun j => decide (Txt.slice (us.getD j ⟨#[]⟩) none (some 4) = wd)) (fun j σ => ∃ t : Option V, σ = [t, some (.int z)]) ⟨none, rfl⟩ ?_ ?_
    · rintro j x σ J R' S' hj sJ hx ⟨_, rfl⟩ kk ks
      rw [List.getElem?_map] at hx
      obtain ⟨r, er, rfl⟩ := Option.map_eq_some_iff.mp hx
      have ln := ur r (List.mem_of_getElem? er)
      rw [show us.getD j ⟨#[]⟩ = r by rw [List.getD_eq_getElem?_getD, er]; rfl] at kk ks
      walk_at "wh"
      refine ⟨by rw [sizeLine_eq]; omega, ?_⟩
      refine newL_rd (fun pw J1 fw sw hw => ?_)
      refine mod_rd (by decide) ?_
      have zm : z % 2 = 0 ∨ z % 2 = 1 := by walk_at "om"
      have go : ∀ w : Str, w = wd → rEqM K (V.str (Txt.slice r none (some 4))) (.str w) J1 fun x H1 => match x with
        | .bl c => br c (R' [some (.str r), some (.int z)] (.str r) H1) (S' [some (.str r), some (.int z)] H1)
        | _ => False := fun w ew => by
        subst ew
        show br (decide (Txt.slice r none (some 4) = w)) _ _
        refine br_dec (fun h => ?_) (fun h => ?_)
        · exact kk (decide_eq_true h) _ _ sw ⟨_, rfl⟩
        · exact ks (decide_eq_false h) _ _ sw ⟨_, rfl⟩
      rcases zm with zm | zm
      · rw [zm] at hwd ⊢
        refine ixL_rd (v := .str "flow") hw rfl ?_
        exact go "flow" (by rw [hwd]; rfl)
      · rw [zm] at hwd ⊢
        refine ixL_rd (v := .str "numb") hw rfl ?_
        exact go "numb" (by rw [hwd]; rfl)
    intro al H8 g8 s8 h8
    obtain ⟨vs, evs⟩ : ∃ vs, vs = (((List.range (us.map V.str).length).filter fun j => decide (Txt.slice (us.getD j ⟨#[]⟩) none (some 4) = wd)).map fun j => us.getD j ⟨#[]⟩) := ⟨_, rfl⟩
    have vl : vs.length ≤ 320 := by
      rw [evs, List.length_map]
      refine Nat.le_trans (List.length_filter_le _ _) ?_
      rw [List.length_range, List.length_map]
      exact ul
    have vr : ∀ x ∈ vs, x.length ≤ 300 := fun x hx => by
      rw [evs] at hx
      obtain ⟨j, hj, rfl⟩ := List.mem_map.mp hx
      rw [List.getD_eq_getElem?_getD]
      cases e : us[j]? with
      | none => exact Nat.zero_le _
      | some u => exact ur u (List.mem_of_getElem? e)
    have h8 : H8 al = some (.lst (vs.map V.str)) := by rw [h8, evs, List.map_map]; rfl
    clear evs
    have s68 := s7.trans s8
    have nal : al ≠ pl := (L6.same s7).ne g8
    refine bent_text_rd (L6.same s68) (by walk_at "om") nlb ⟨us, s8 _ _ h7, by walk_at "om", ur⟩ (fun tx H9 tl c9 L9 => ?_)
    have s39 := (s36.trans s68).chg fpl c9
    have h89 := c9 _ _ nal h8
    refine iterL_rd h89 ?_
    refine comp_I (n := (vs.map V.str).length) (Wk.list (SqL.of h89)) (by rw [List.length_map, sizeLine_eq]; omega) (fun j => .str ((vs.map fun x => x ++ lineE).getD j ⟨#[]⟩)) (fun _ => true) (fun j σ => ∃ t : Option V, σ = [t]) ⟨none, rfl⟩ ?_ ?_
    · rintro j x σ J R' S' hj sJ hx' ⟨_, rfl⟩ kk _
      rw [List.getElem?_map] at hx'
      obtain ⟨r, er, rfl⟩ := Option.map_eq_some_iff.mp hx'
      have ln := vr r (List.mem_of_getElem? er)
      rw [show (vs.map fun x => x ++ lineE).getD j ⟨#[]⟩ = r ++ lineE by rw [List.getD_eq_getElem?_getD, List.getElem?_map, er]; rfl] at kk
      refine br_T ?_
      walk_at "wh"
      refine ⟨by show r.length + 1 ≤ sizeLine; rw [sizeLine_eq]; omega, ?_⟩
      walk_at "wh"
      exact kk rfl _ _ (Same.refl _) ⟨_, rfl⟩
    intro lc H10 g10 s10 h10
    rw [filter_T, range_vals (f := V.str) (xs := vs.map fun x => x ++ lineE) (d := ⟨#[]⟩) (by rw [List.length_map, List.length_map])] at h10
    refine join_rd h10 (join_room vl vr (by decide)) ?_
    have jl := join_short vl vr
    generalize Txt.join (Str.ofString "") (vs.map fun x => x ++ lineE) = ty at jl
    refine newL_rd (fun lo H11 g11 s11 h11 => ?_)
    have s311 := (s39.trans s10).trans s11
    have long : ∀ v ∈ [V.str tx, .str (Str.ofString ""), .str ty], ∃ y : Str, v = .str y ∧ LongP y := fun v hv => by
      simp only [List.mem_cons, List.not_mem_nil, or_false] at hv
      rcases hv with rfl | rfl | rfl
      · exact ⟨_, rfl, by unfold LongP; omega⟩
      · exact ⟨_, rfl, by unfold LongP; decide +kernel⟩
      · exact ⟨_, rfl, by unfold LongP; omega⟩
    refine iterL_rd h11 ?_
    refine loop_list (xs := [V.str tx, .str (Str.ofString ""), .str ty]) (fun i σ I => ∃ x6 : Option V, σ = [some (.ref a), some (.int z), some (.ref pl), some (.ref lb), some (.ref al), some (.str tx), x6] ∧ Same H11 I) ?_ ?_ ?_ ?_
    · exact ⟨_, rfl, Same.refl _⟩
    · rintro i σ I _ ⟨_, _, h⟩
      exact SqL.of (h _ _ h11)
    · rintro i v σ I hv ⟨y6, rfl, sI⟩
      obtain ⟨y, rfl, hy⟩ := long v (List.mem_of_getElem? hv)
      cases hres : resP y with
      | inl n =>
        refine told_of_rd hy (fun k1 e1 I1 t1 => ?_) (fun s e1 => by rw [hres] at e1; cases e1)
        rw [hres] at e1
        cases e1
        refine due_of_rd hy (fun k2 e2 I2 t2 => ?_) (fun s e2 => by rw [hres] at e2; cases e2)
        rw [hres] at e2
        cases e2
        walk_at "wh"
        first | refine br_F ?_ | refine br_not (br_dT rfl ?_) | (rw [decide_eq_true rfl]; refine br_F ?_)
        walk_at "wh"
        exact ⟨_, rfl, (sI.trans t1).trans t2⟩
      | inr s =>
        refine told_of_rd hy (fun k1 e1 => by rw [hres] at e1; cases e1) (fun s1 e1 p st tb rs qs I1 t1 P1 => ?_)
        rw [hres] at e1
        cases e1
        refine due_of_rd hy (fun k2 e2 => by rw [hres] at e2; cases e2) (fun s2 e2 p' st' tb' rs' qs' I2 t2 P2 => ?_)
        rw [hres] at e2
        cases e2
        refine eqO_rd ((P1.same t2).eq P2) ?_
        refine br_F ?_
        walk_at "wh"
        exact ⟨_, rfl, (sI.trans t1).trans t2⟩
    · rintro σ I ⟨y6, rfl, sI⟩
      walk_at "wh"
      exact ⟨_, _, _, _, _, _, rfl, s311.trans sI⟩
  · rintro σ H4 ⟨_, _, _, _, _, _, rfl, _⟩
    exact k H4
-- @@split
end
abbrev FA (K : PySem.W.Frag) (x : Str) (st : Stmt) : Prop := ∃ (f : Addr) (od an : Option Addr) (sl : Array (Option Value)) (oc kV dc pm cd ct : Value), PySem.W.nsIn K mainGlobals x = some (some (.ref f)) ∧ K.lookup f = some ⟨oc, od, .func (PySem.W.fnOf x x (defArgs st) (defBody st) (defScope st) .none kV dc pm an cd ct), sl⟩ ∧ PySem.W.codeIn K cd x = true ∧ PySem.W.keepIn K (.ref f) = true
theorem FA.of {K : PySem.W.Frag} {x : Str} {st : Stmt} {f : Addr} {od an : Option Addr} {sl : Array (Option Value)} {oc kV dc pm cd ct : Value} (a : PySem.W.nsIn K mainGlobals x = some (some (.ref f))) (l : K.lookup f = some ⟨oc, od, .func (PySem.W.fnOf x x (defArgs st) (defBody st) (defScope st) .none kV dc pm an cd ct), sl⟩) (c : PySem.W.codeIn K cd x = true) (k : PySem.W.keepIn K (.ref f) = true) : FA K x st := ⟨_, _, _, _, _, _, _, _, _, _, a, l, c, k⟩
structure Ev (P : Program) (w : World) (K : PySem.W.Frag) (mg : Str → Option Value) (base h : Heap) : Prop where
  x : K.In h
  g : h.Ns mainGlobals mg
local macro_rules | `(tactic| walk_at "bd") => `(tactic| (intro _ _ _ _ _ _ us hl; rcases us with _ | ⟨_, _ | ⟨_, _ | ⟨_, _ | ⟨_, _ | ⟨_, _ | ⟨_, _ | ⟨_, _⟩⟩⟩⟩⟩⟩⟩ <;> first | rfl | exact Nat.noConfusion hl | cases hl))
section
variable {P : Program} {w : World} {K : PySem.W.Frag} {mg : Str → Option Value} {base h : Heap} {CX : CXT} {k : Nat} {x : Str} {ps : List Str} {sp : Sp} {st : Stmt}
theorem Ev.r (E : Ev P w K mg base h) (A : FA K x st) (ok : ∀ {f : Addr} {fd : FuncData}, Fun K x x st f fd → mg x = some (.ref f) → PySem.W.keepIn K (.ref f) = true → Binds K fd ps [] → FnOk P w K mg base CX k f fd ps sp) (b : ∀ (kV doc pm : Value) (an : Option Addr) (cdv ct : Value) (us : List Value), us.length = ps.length → bindArgs (PySem.W.fnOf x x (defArgs st) (defBody st) (defScope st) .none kV doc pm an cdv ct) ⟨us, []⟩ = pure (ps.zip us) := by walk_at "bd") : Def P w K mg base CX k x ps sp := by
  obtain ⟨f, od, an, sl, oc, kV, dc, pm, cd, ct, a, l, c, k⟩ := A
  have F := fun_mk (st := st) l c k
  have a := PySem.W.mg_of E.x E.g a
  exact ⟨⟨_, _, ok F a k (F.binds b), a, k, F.binds b⟩⟩
theorem Ev.d (E : Ev P w K mg base h) (A : FA K x st) (ok : ∀ {f : Addr} {fd : FuncData}, Fun K x x st f fd → FnOk P w K mg base CX k f fd ps sp) (b : ∀ (kV doc pm : Value) (an : Option Addr) (cdv ct : Value) (us : List Value), us.length = ps.length → bindArgs (PySem.W.fnOf x x (defArgs st) (defBody st) (defScope st) .none kV doc pm an cdv ct) ⟨us, []⟩ = pure (ps.zip us) := by walk_at "bd") : Def P w K mg base CX k x ps sp := E.r A (fun F _ _ _ => ok F) b
end
theorem all_mk {l : PySem.W.OpenLaw} {w : World} {K : PySem.W.Frag} {h : Heap} {mg : Str → Option Value} {fa : Addr} (X : K.In h) (G : h.Ns mainGlobals mg) (hfa : mg "law" = some (.ref fa))
    {tk_FIGURES : Tok} {tk_MOST_FIGURES : Tok} {a_WANTED ep_WANTED : Nat} {t0_WANTED u0_WANTED t1_WANTED u1_WANTED t2_WANTED u2_WANTED t3_WANTED u3_WANTED t4_WANTED u4_WANTED : Tok} {a_HostError : Addr} {cd_HostError : ClassData} {a_NoBattle : Addr} {cd_NoBattle : ClassData} {a_NoPlan : Addr} {cd_NoPlan : ClassData} {a_NoMix : Addr} {cd_NoMix : ClassData} {a_NoStream : Addr} {cd_NoStream : ClassData} {a_NoSide : Addr} {cd_NoSide : ClassData} {a_NoAlike : Addr} {cd_NoAlike : ClassData} {a_NoNumber : Addr} {cd_NoNumber : ClassData} {a_TooGreat : Addr} {cd_TooGreat : ClassData} {a_NoEven : Addr} {cd_NoEven : ClassData} {a_NoText : Addr} {cd_NoText : ClassData} {a_NoRow : Addr} {cd_NoRow : ClassData} {a_NoName : Addr} {cd_NoName : ClassData} {a_NoPlace : Addr} {cd_NoPlace : ClassData} {nm_NoText qn_NoText : Str} {N_NoText : Addr} {bs_NoText : List Value} {sn_NoText : List Str} {sub_NoText : List Value} {ab_NoText : Bool} {col_NoText : Option Bool} {dd_NoText : Option Addr} {k0_NoText k1_NoText k2_NoText k3_NoText k5_NoText : Option Value} {i_NoText : Addr} {iod_NoText ian_NoText : Option Addr} {isl_NoText : Array (Option Value)} {ioc_NoText ikV_NoText idc_NoText ipm_NoText icd_NoText ict_NoText : Value}
    (e_FIGURES : PySem.W.nsIn K mainGlobals "FIGURES" = some (some (.str "0123456789" tk_FIGURES)))
    (e_MOST_FIGURES : PySem.W.nsIn K mainGlobals "MOST_FIGURES" = some (some (.int 2000 tk_MOST_FIGURES)))
    (e_WANTED : PySem.W.nsIn K mainGlobals "WANTED" = some (some (.ref a_WANTED)))
    (l_WANTED : K.lookup a_WANTED = some { cls := .type "dict", data := .dict #[⟨PyData.keyHash w.params "hosts", .str "hosts" t0_WANTED, .int 2 u0_WANTED⟩, ⟨PyData.keyHash w.params "more", .str "more" t1_WANTED, .int 2 u1_WANTED⟩, ⟨PyData.keyHash w.params "lead", .str "lead" t2_WANTED, .int 2 u2_WANTED⟩, ⟨PyData.keyHash w.params "flow", .str "flow" t3_WANTED, .int 4 u3_WANTED⟩, ⟨PyData.keyHash w.params "number", .str "number" t4_WANTED, .int 3 u4_WANTED⟩] ep_WANTED })
    (r_WANTED : (a_WANTED == sysModules) = false)
    (hD : PySem.W.nsIn K cStatics "sys.int_max_str_digits" = some none)
    (A_0 : FA K "has_wanted" s_has_wanted)
    (A_1 : FA K "is_number" s_is_number)
    (A_2 : FA K "read_row" s_read_row)
    (A_3 : FA K "flow_stands" s_flow_stands)
    (A_4 : FA K "number_stands" s_number_stands)
    (A_5 : FA K "stands_in_paper" s_stands_in_paper)
    (A_6 : FA K "read_rows" s_read_rows)
    (A_7 : FA K "by_fields" s_by_fields)
    (A_8 : FA K "read_paper" s_read_paper)
    (A_9 : FA K "_law_stirred" s__law_stirred)
    (A_10 : FA K "_law_opened" s__law_opened)
    (A_11 : FA K "_law_draw" s__law_draw)
    (A_12 : FA K "_law_drawn_paper" s__law_drawn_paper)
    (A_13 : FA K "_law_rows_of" s__law_rows_of)
    (A_14 : FA K "_law_drawn_sign" s__law_drawn_sign)
    (A_15 : FA K "_law_odd_one" s__law_odd_one)
    (A_16 : FA K "_law_many_rows" s__law_many_rows)
    (A_17 : FA K "_law_bent_text" s__law_bent_text)
    (A_18 : FA K "_law_figured" s__law_figured)
    (A_19 : FA K "_law_all_figured" s__law_all_figured)
    (A_20 : FA K "_law_kind_of" s__law_kind_of)
    (A_21 : FA K "_law_took" s__law_took)
    (A_22 : FA K "_law_due_of" s__law_due_of)
    (A_23 : FA K "_law_told_of" s__law_told_of)
    (A_24 : FA K "law" s_law)
    (z_ValueError : PySem.W.nsIn K mainGlobals "ValueError" = some none)
    (z_all : PySem.W.nsIn K mainGlobals "all" = some none)
    (z_bool : PySem.W.nsIn K mainGlobals "bool" = some none)
    (z_enumerate : PySem.W.nsIn K mainGlobals "enumerate" = some none)
    (z_int : PySem.W.nsIn K mainGlobals "int" = some none)
    (z_isinstance : PySem.W.nsIn K mainGlobals "isinstance" = some none)
    (z_len : PySem.W.nsIn K mainGlobals "len" = some none)
    (z_range : PySem.W.nsIn K mainGlobals "range" = some none)
    (z_str : PySem.W.nsIn K mainGlobals "str" = some none)
    (z_tuple : PySem.W.nsIn K mainGlobals "tuple" = some none)
    (e_HostError : PySem.W.nsIn K mainGlobals "HostError" = some (some (.ref a_HostError)))
    (kk_HostError : PySem.W.clsIn K a_HostError = some cd_HostError)
    (tt_HostError : PySem.W.typeIn K (.ref a_HostError) = some (.type "type"))
    (nn_HostError : PySem.W.subIn K (.type "NoneType") (.ref a_HostError) = some false)
    (e_NoBattle : PySem.W.nsIn K mainGlobals "NoBattle" = some (some (.ref a_NoBattle)))
    (kk_NoBattle : PySem.W.clsIn K a_NoBattle = some cd_NoBattle)
    (tt_NoBattle : PySem.W.typeIn K (.ref a_NoBattle) = some (.type "type"))
    (nn_NoBattle : PySem.W.subIn K (.type "NoneType") (.ref a_NoBattle) = some false)
    (e_NoPlan : PySem.W.nsIn K mainGlobals "NoPlan" = some (some (.ref a_NoPlan)))
    (kk_NoPlan : PySem.W.clsIn K a_NoPlan = some cd_NoPlan)
    (tt_NoPlan : PySem.W.typeIn K (.ref a_NoPlan) = some (.type "type"))
    (nn_NoPlan : PySem.W.subIn K (.type "NoneType") (.ref a_NoPlan) = some false)
    (e_NoMix : PySem.W.nsIn K mainGlobals "NoMix" = some (some (.ref a_NoMix)))
    (kk_NoMix : PySem.W.clsIn K a_NoMix = some cd_NoMix)
    (tt_NoMix : PySem.W.typeIn K (.ref a_NoMix) = some (.type "type"))
    (nn_NoMix : PySem.W.subIn K (.type "NoneType") (.ref a_NoMix) = some false)
    (e_NoStream : PySem.W.nsIn K mainGlobals "NoStream" = some (some (.ref a_NoStream)))
    (kk_NoStream : PySem.W.clsIn K a_NoStream = some cd_NoStream)
    (tt_NoStream : PySem.W.typeIn K (.ref a_NoStream) = some (.type "type"))
    (nn_NoStream : PySem.W.subIn K (.type "NoneType") (.ref a_NoStream) = some false)
    (e_NoSide : PySem.W.nsIn K mainGlobals "NoSide" = some (some (.ref a_NoSide)))
    (kk_NoSide : PySem.W.clsIn K a_NoSide = some cd_NoSide)
    (tt_NoSide : PySem.W.typeIn K (.ref a_NoSide) = some (.type "type"))
    (nn_NoSide : PySem.W.subIn K (.type "NoneType") (.ref a_NoSide) = some false)
    (e_NoAlike : PySem.W.nsIn K mainGlobals "NoAlike" = some (some (.ref a_NoAlike)))
    (kk_NoAlike : PySem.W.clsIn K a_NoAlike = some cd_NoAlike)
    (tt_NoAlike : PySem.W.typeIn K (.ref a_NoAlike) = some (.type "type"))
    (nn_NoAlike : PySem.W.subIn K (.type "NoneType") (.ref a_NoAlike) = some false)
    (e_NoNumber : PySem.W.nsIn K mainGlobals "NoNumber" = some (some (.ref a_NoNumber)))
    (kk_NoNumber : PySem.W.clsIn K a_NoNumber = some cd_NoNumber)
    (tt_NoNumber : PySem.W.typeIn K (.ref a_NoNumber) = some (.type "type"))
    (nn_NoNumber : PySem.W.subIn K (.type "NoneType") (.ref a_NoNumber) = some false)
    (e_TooGreat : PySem.W.nsIn K mainGlobals "TooGreat" = some (some (.ref a_TooGreat)))
    (kk_TooGreat : PySem.W.clsIn K a_TooGreat = some cd_TooGreat)
    (tt_TooGreat : PySem.W.typeIn K (.ref a_TooGreat) = some (.type "type"))
    (nn_TooGreat : PySem.W.subIn K (.type "NoneType") (.ref a_TooGreat) = some false)
    (e_NoEven : PySem.W.nsIn K mainGlobals "NoEven" = some (some (.ref a_NoEven)))
    (kk_NoEven : PySem.W.clsIn K a_NoEven = some cd_NoEven)
    (tt_NoEven : PySem.W.typeIn K (.ref a_NoEven) = some (.type "type"))
    (nn_NoEven : PySem.W.subIn K (.type "NoneType") (.ref a_NoEven) = some false)
    (e_NoText : PySem.W.nsIn K mainGlobals "NoText" = some (some (.ref a_NoText)))
    (kk_NoText : PySem.W.clsIn K a_NoText = some cd_NoText)
    (tt_NoText : PySem.W.typeIn K (.ref a_NoText) = some (.type "type"))
    (nn_NoText : PySem.W.subIn K (.type "NoneType") (.ref a_NoText) = some false)
    (e_NoRow : PySem.W.nsIn K mainGlobals "NoRow" = some (some (.ref a_NoRow)))
    (kk_NoRow : PySem.W.clsIn K a_NoRow = some cd_NoRow)
    (tt_NoRow : PySem.W.typeIn K (.ref a_NoRow) = some (.type "type"))
    (nn_NoRow : PySem.W.subIn K (.type "NoneType") (.ref a_NoRow) = some false)
    (e_NoName : PySem.W.nsIn K mainGlobals "NoName" = some (some (.ref a_NoName)))
    (kk_NoName : PySem.W.clsIn K a_NoName = some cd_NoName)
    (tt_NoName : PySem.W.typeIn K (.ref a_NoName) = some (.type "type"))
    (nn_NoName : PySem.W.subIn K (.type "NoneType") (.ref a_NoName) = some false)
    (e_NoPlace : PySem.W.nsIn K mainGlobals "NoPlace" = some (some (.ref a_NoPlace)))
    (kk_NoPlace : PySem.W.clsIn K a_NoPlace = some cd_NoPlace)
    (tt_NoPlace : PySem.W.typeIn K (.ref a_NoPlace) = some (.type "type"))
    (nn_NoPlace : PySem.W.subIn K (.type "NoneType") (.ref a_NoPlace) = some false)
    (bb_HostError : PySem.W.subIn K (.ref a_HostError) (.type "BaseException") = some true)
    (x_HostError : PySem.W.excIn K a_HostError bmV newV = true)
    (ob_NoText : K.lookup a_NoText = some (excClassObj nm_NoText qn_NoText a_NoText N_NoText bs_NoText (.ref a_HostError :: bmV) true sn_NoText sub_NoText ab_NoText col_NoText dd_NoText k0_NoText k1_NoText k2_NoText k3_NoText k5_NoText newV))
    (in_NoText : PySem.W.findIn K (.ref a_NoText) "__init__" = some (some (.ref i_NoText)))
    (ty_NoText : PySem.W.typeIn K (.ref i_NoText) = some (.type "function"))
    (sa_NoText : PySem.W.findIn K (.ref a_NoText) "__setattr__" = some (some (.builtin "object.__setattr__")))
    (nf_NoText : PySem.W.findIn K (.ref a_NoText) "row" = some none)
    (hd_NoText : PySem.W.hasDictIn K a_NoText = true)
    (li_NoText : K.lookup i_NoText = some ⟨ioc_NoText, iod_NoText, .func (PySem.W.fnOf "__init__" "NoText.__init__" (defArgs q_NoText) (defBody q_NoText) (defScope q_NoText) .none ikV_NoText idc_NoText ipm_NoText ian_NoText icd_NoText ict_NoText), isl_NoText⟩)
    (ci_NoText : PySem.W.codeIn K icd_NoText "NoText.__init__" = true)
    (ki_NoText : PySem.W.keepIn K (.ref i_NoText) = true)
    (f1_NoText : PySem.W.findIn K (.ref a_NoText) "__getattribute__" = some (some (.builtin "BaseException.__getattribute__")))
    (f2_NoText : PySem.W.findIn K (.ref a_NoText) "__getattr__" = some none)
    (f3_NoText : PySem.W.findIn K (.ref a_NoText) "__class__" = some (some (.builtin "object.__class__")))
    (f4_NoText : PySem.W.subIn K (.ref a_NoText) (.type "BaseException") = some true)
    (f5_NoText : PySem.W.mroIn K a_NoText (.type "object") = some true)
    (f6_NoText : PySem.W.subIn K (.ref a_NoText) (.type "ValueError") = some true)
    (s_NoText_HostError : PySem.W.subIn K (.ref a_NoText) (.ref a_HostError) = some true)
    (s_NoText_NoBattle : PySem.W.subIn K (.ref a_NoText) (.ref a_NoBattle) = some false)
    (s_NoText_NoPlan : PySem.W.subIn K (.ref a_NoText) (.ref a_NoPlan) = some false)
    (s_NoText_NoMix : PySem.W.subIn K (.ref a_NoText) (.ref a_NoMix) = some false)
    (s_NoText_NoStream : PySem.W.subIn K (.ref a_NoText) (.ref a_NoStream) = some false)
    (s_NoText_NoSide : PySem.W.subIn K (.ref a_NoText) (.ref a_NoSide) = some false)
    (s_NoText_NoAlike : PySem.W.subIn K (.ref a_NoText) (.ref a_NoAlike) = some false)
    (s_NoText_NoNumber : PySem.W.subIn K (.ref a_NoText) (.ref a_NoNumber) = some false)
    (s_NoText_TooGreat : PySem.W.subIn K (.ref a_NoText) (.ref a_TooGreat) = some false)
    (s_NoText_NoEven : PySem.W.subIn K (.ref a_NoText) (.ref a_NoEven) = some false)
    (s_NoText_NoText : PySem.W.subIn K (.ref a_NoText) (.ref a_NoText) = some true)
    (s_NoText_NoRow : PySem.W.subIn K (.ref a_NoText) (.ref a_NoRow) = some false)
    (s_NoText_NoName : PySem.W.subIn K (.ref a_NoText) (.ref a_NoName) = some false)
    (s_NoText_NoPlace : PySem.W.subIn K (.ref a_NoText) (.ref a_NoPlace) = some false) :
    ∃ fd : FuncData, (∀ (s : Shared) (v : Value), BindsTo s fd ⟨[v], []⟩ [("_law_script", v)]) ∧ ∀ base : Heap, K.In base → base.Ns mainGlobals mg → FnOk l.prog w K mg base CX0 7 fa fd ["_law_script"] (spLaw K) := by
  obtain ⟨_, _, an, _, _, kV, dc, pm, cd, ct, aL, lL, cL, kL⟩ := A_24
  have e := hfa.symm.trans (PySem.W.mg_of X G aL)
  cases e
  have N : Nm mg := ⟨PySem.W.mg_none_of X G z_ValueError, PySem.W.mg_none_of X G z_all, PySem.W.mg_none_of X G z_bool, PySem.W.mg_none_of X G z_enumerate, PySem.W.mg_none_of X G z_int, PySem.W.mg_none_of X G z_isinstance, PySem.W.mg_none_of X G z_len, PySem.W.mg_none_of X G z_range, PySem.W.mg_none_of X G z_str, PySem.W.mg_none_of X G z_tuple⟩
  have C_FIGURES := PySem.W.mg_of X G e_FIGURES
  have C_MOST_FIGURES := PySem.W.mg_of X G e_MOST_FIGURES
  have T_WANTED : TabS w K mg "WANTED" [("hosts", 2), ("more", 2), ("lead", 2), ("flow", 4), ("number", 3)] := tabS_mk (es := [("hosts", 2, t0_WANTED, u0_WANTED), ("more", 2, t1_WANTED, u1_WANTED), ("lead", 2, t2_WANTED, u2_WANTED), ("flow", 4, t3_WANTED, u3_WANTED), ("number", 3, t4_WANTED, u4_WANTED)]) X G e_WANTED r_WANTED l_WANTED (show (["hosts", "more", "lead", "flow", "number"] : List Str).Nodup by decide +kernel)
  refine ⟨PySem.W.fnOf "law" "law" (defArgs s_law) (defBody s_law) (defScope s_law) .none kV dc pm an cd ct, fun s v => .of_eq rfl, fun base XB GB => ?_⟩
  have E : Ev l.prog w K mg base h := ⟨X, G⟩
  have Z : Cz K mg base a_HostError a_NoBattle a_NoPlan a_NoMix a_NoStream a_NoSide a_NoAlike a_NoNumber a_TooGreat a_NoEven a_NoText a_NoRow a_NoName a_NoPlace i_NoText := ⟨PySem.W.mg_of X G e_HostError, PySem.W.mg_of X G e_NoBattle, PySem.W.mg_of X G e_NoPlan, PySem.W.mg_of X G e_NoMix, PySem.W.mg_of X G e_NoStream, PySem.W.mg_of X G e_NoSide, PySem.W.mg_of X G e_NoAlike, PySem.W.mg_of X G e_NoNumber, PySem.W.mg_of X G e_TooGreat, PySem.W.mg_of X G e_NoEven, PySem.W.mg_of X G e_NoText, PySem.W.mg_of X G e_NoRow, PySem.W.mg_of X G e_NoName, PySem.W.mg_of X G e_NoPlace, ⟨⟨_, _, _, _, _, _, _, _, _, _, _, _, _, _, ob_NoText⟩, fun h X => tail_self X x_HostError, in_NoText, ty_NoText, sa_NoText, nf_NoText⟩, ⟨_, fun_mk (st := q_NoText) li_NoText ci_NoText ki_NoText, (fun_mk (st := q_NoText) li_NoText ci_NoText ki_NoText).binds fun _ _ _ _ _ _ us hl => match us, hl with | [_, _], _ => rfl⟩, hd_NoText, ⟨f1_NoText, f2_NoText, f3_NoText, f4_NoText, f5_NoText⟩, by rw [kk_NoText]; rfl, exm_ref bb_HostError kk_HostError tt_HostError s_NoText_HostError, kit_ValueError f6_NoText, kit_ref kk_HostError tt_HostError s_NoText_HostError s_NoText_NoText, kit_ref kk_NoBattle tt_NoBattle s_NoText_NoBattle s_NoText_NoText, kit_ref kk_NoPlan tt_NoPlan s_NoText_NoPlan s_NoText_NoText, kit_ref kk_NoMix tt_NoMix s_NoText_NoMix s_NoText_NoText, kit_ref kk_NoStream tt_NoStream s_NoText_NoStream s_NoText_NoText, kit_ref kk_NoSide tt_NoSide s_NoText_NoSide s_NoText_NoText, kit_ref kk_NoAlike tt_NoAlike s_NoText_NoAlike s_NoText_NoText, kit_ref kk_NoNumber tt_NoNumber s_NoText_NoNumber s_NoText_NoText, kit_ref kk_TooGreat tt_TooGreat s_NoText_TooGreat s_NoText_NoText, kit_ref kk_NoEven tt_NoEven s_NoText_NoEven s_NoText_NoText, kit_ref kk_NoText tt_NoText s_NoText_NoText s_NoText_NoText, kit_ref kk_NoRow tt_NoRow s_NoText_NoRow s_NoText_NoText, kit_ref kk_NoName tt_NoName s_NoText_NoName s_NoText_NoText, kit_ref kk_NoPlace tt_NoPlace s_NoText_NoPlace s_NoText_NoText, kit_none kk_HostError tt_HostError nn_HostError, kit_none kk_NoBattle tt_NoBattle nn_NoBattle, kit_none kk_NoPlan tt_NoPlan nn_NoPlan, kit_none kk_NoMix tt_NoMix nn_NoMix, kit_none kk_NoStream tt_NoStream nn_NoStream, kit_none kk_NoSide tt_NoSide nn_NoSide, kit_none kk_NoAlike tt_NoAlike nn_NoAlike, kit_none kk_NoNumber tt_NoNumber nn_NoNumber, kit_none kk_TooGreat tt_TooGreat nn_TooGreat, kit_none kk_NoEven tt_NoEven nn_NoEven, kit_none kk_NoText tt_NoText nn_NoText, kit_none kk_NoRow tt_NoRow nn_NoRow, kit_none kk_NoName tt_NoName nn_NoName, kit_none kk_NoPlace tt_NoPlace nn_NoPlace⟩
  have D_has_wanted := E.d A_0 fun F => ok_has_wanted F N T_WANTED
  have D_is_number := E.d A_1 fun F => ok_is_number F N C_FIGURES C_MOST_FIGURES
  have D_read_row := E.d A_2 fun F => ok_read_row F N hD D_has_wanted D_is_number
  have D_flow_stands := E.d A_3 fun F => ok_flow_stands F N
  have D_number_stands := E.d A_4 fun F => ok_number_stands F N
  have D_stands_in_paper := E.d A_5 fun F => ok_stands_in_paper F N D_flow_stands D_number_stands
  have D_read_rows := E.d A_6 fun F => ok_read_rows F N D_read_row D_stands_in_paper Z
  have D_by_fields := E.d A_7 fun F => ok_by_fields F N
  have D_read_paper := E.d A_8 fun F => ok_read_paper F N D_by_fields D_read_rows D_stands_in_paper Z
  have D__law_stirred := E.d A_9 fun F => ok__law_stirred F N
  have D__law_opened := E.d A_10 fun F => ok__law_opened F N
  have D__law_draw := E.d A_11 fun F => ok__law_draw F N D__law_stirred
  have D__law_drawn_paper := E.d A_12 fun F => ok__law_drawn_paper F N D__law_draw
  have D__law_rows_of := E.d A_13 fun F => ok__law_rows_of F N
  have D__law_drawn_sign := E.d A_14 fun F => ok__law_drawn_sign F N D__law_draw
  have D__law_odd_one := E.d A_15 fun F => ok__law_odd_one F N D__law_draw
  have D__law_many_rows := E.d A_16 fun F => ok__law_many_rows F N D__law_draw D__law_odd_one
  have D__law_bent_text := E.d A_17 fun F => ok__law_bent_text F N D__law_draw D__law_drawn_sign D__law_many_rows
  have D__law_figured := E.d A_18 fun F => ok__law_figured F N hD
  have D__law_all_figured := E.d A_19 fun F => ok__law_all_figured F N D__law_figured
  have D__law_kind_of := E.d A_20 fun F => ok__law_kind_of F N Z
  have D__law_took := E.d A_21 fun F => ok__law_took F N D__law_all_figured
  have D__law_due_of := E.d A_22 fun F => ok__law_due_of F N D__law_took
  have D__law_told_of := E.d A_23 fun F => ok__law_told_of F N D__law_kind_of D_read_paper Z
  exact ok_law (P := l.prog) (w := w) (base := base) (fun_mk (st := s_law) lL cL kL) N D__law_bent_text D__law_drawn_paper D__law_due_of D__law_opened D__law_rows_of D__law_told_of
theorem walk {l : PySem.W.OpenLaw} {q : Program} {loose : List Str} {XP : (Str → Option Value) → Heap → Prop} {YP : World → Heap → Prop} {d : DefRec} {K : Params → PySem.W.Frag} (hn : l.most = some 63) (hdf : d.params.defaults = [])
    (hY : ∀ (w : World) (h : Heap), YP w h → (K w.params).In h)
    (F : ∀ (w : World) (mg : Str → Option Value) (fa : Addr) (h : Heap), (K w.params).In h → h.Ns mainGlobals mg → mg d.name = some (.ref fa) →
      ∃ fd : FuncData, (∀ (s : Shared) (u : Value), BindsTo s fd ⟨[u], []⟩ [("_law_script", u)]) ∧ ∀ base : Heap, (K w.params).In base → base.Ns mainGlobals mg → FnOk l.prog w (K w.params) mg base CX0 7 fa fd ["_law_script"] (spLaw (K w.params))) :
    PySem.W.WalkO q loose XP YP l.row.toRowW d [] (fun f vs => PySem.call f vs) :=
  L2.walk_of (n := 63) (k := 7) (x := "_law_script") (CX := fun _ => CX0) (sp := fun w => spLaw (K w.params)) hn (by decide) hdf ⟨rfl, by decide, by decide, rfl⟩ hY F (fun _ _ a ns hl _ hS => ⟨a, ns, rfl, hS, hl, fun _ => rfl⟩) fun _ _ _ _ _ z => z
end G
namespace PySem.W.Fast
theorem tw11294254084852183029:True:=⟨⟩
theorem tw17095440011466209213:True:=⟨⟩
theorem tw7749906153946207643:True:=⟨⟩
theorem tw1813251997610165938:True:=⟨⟩
theorem tw7122590537394815018:True:=⟨⟩
theorem tw10433502301806179056:True:=⟨⟩
theorem tw1958046973834667753:True:=⟨⟩
theorem tw17161540051923032959:True:=⟨⟩
theorem tw1540720614169471590:True:=⟨⟩
theorem tw11537337879039021074:True:=⟨⟩
theorem tw13732843941387635220:True:=⟨⟩
theorem tw10601100400209737878:True:=⟨⟩
theorem tw13200860915985507264:True:=⟨⟩
theorem tw13434410005981484510:True:=⟨⟩
theorem tw8021863268696062273:True:=⟨⟩
theorem tw17716996939498868892:True:=⟨⟩
theorem tw17933543004652520509:True:=⟨⟩
theorem tw1895450773952781436:True:=⟨⟩
theorem tw9003386227391931797:True:=⟨⟩
theorem tw7258400612625428557:True:=⟨⟩
theorem tw12756587781798879319:True:=⟨⟩
theorem tw13756976849172682042:True:=⟨⟩
theorem tw15717835438360198542:True:=⟨⟩
theorem tw259373544064228148:True:=⟨⟩
theorem tw11522960484030881839:True:=⟨⟩
theorem tw10937733248401384640:True:=⟨⟩
theorem tw2222247115068607387:True:=⟨⟩
theorem tw8141507301644867983:True:=⟨⟩
theorem tw1719867933693256008:True:=⟨⟩
theorem tw11563562901325498483:True:=⟨⟩
theorem tw11502036420944557616:True:=⟨⟩
theorem tw12408187700608113348:True:=⟨⟩
theorem tw252419011368421279:True:=⟨⟩
theorem tw17256794525573860893:True:=⟨⟩
theorem tw1476243438238126733:True:=⟨⟩
theorem tw5368182870780163654:True:=⟨⟩
theorem tw11115493893777066541:True:=⟨⟩
theorem tw2687880298460952113:True:=⟨⟩
theorem tw7076630929092696476:True:=⟨⟩
theorem tw12065207719759723053:True:=⟨⟩
theorem tw8220553305236977006:True:=⟨⟩
theorem tw8946152582056412442:True:=⟨⟩
theorem tw12631531286134207670:True:=⟨⟩
theorem tw4235455554421289832:True:=⟨⟩
theorem tw8127560879029871449:True:=⟨⟩
theorem tw7092471534750191924:True:=⟨⟩
theorem tw5111750302915395980:True:=⟨⟩
theorem tw8547157483730826567:True:=⟨⟩
theorem tw15734958625706793582:True:=⟨⟩
theorem tw7504085147650512108:True:=⟨⟩
theorem tw11952536655734987339:True:=⟨⟩
theorem tw11450108917746546457:True:=⟨⟩
theorem tw16633231709282952824:True:=⟨⟩
theorem tw16765083032925249958:True:=⟨⟩
theorem tw6485715195627992035:True:=⟨⟩
theorem tw16178044713958802445:True:=⟨⟩
theorem tw14278294950780071990:True:=⟨⟩
theorem tw12627811055163895057:True:=⟨⟩
theorem tw6746378689237979786:True:=⟨⟩
theorem tw12997885762546504577:True:=⟨⟩
theorem tw13439030166853257542:True:=⟨⟩
theorem tw5023500009799496764:True:=⟨⟩
theorem tw10615030522550999071:True:=⟨⟩
theorem tw5633619548597553356:True:=⟨⟩
theorem tw13023861254311476797:True:=⟨⟩
theorem tw9739185384166093099:True:=⟨⟩
theorem tw2528065108826226425:True:=⟨⟩
theorem tw8576720357269910451:True:=⟨⟩
theorem tw6284235255711413386:True:=⟨⟩
theorem tw472560615472527098:True:=⟨⟩
theorem tw9145918709520651318:True:=⟨⟩
theorem tw14145493927460610186:True:=⟨⟩
theorem tw268782851168204389:True:=⟨⟩
theorem tw16014915780914576446:True:=⟨⟩
theorem tw2768741379562338706:True:=⟨⟩
theorem tw13476493404124779721:True:=⟨⟩
theorem tw17121980253412657884:True:=⟨⟩
theorem tw12177778180628930138:True:=⟨⟩
theorem tw8138597716791607406:True:=⟨⟩
theorem tw13622157874535408211:True:=⟨⟩
theorem tw1480307389840740959:True:=⟨⟩
theorem tw14433554944334260446:True:=⟨⟩
theorem tw3756891035016212499:True:=⟨⟩
theorem tw16243184988357076115:True:=⟨⟩
theorem tw4042282390496365250:True:=⟨⟩
theorem tw7221366008721847990:True:=⟨⟩
theorem tw5217618114604499797:True:=⟨⟩
theorem tw3644065689804948294:True:=⟨⟩
theorem tw14546244445805614920:True:=⟨⟩
theorem tw12241801133151366089:True:=⟨⟩
theorem tw11627299155614722881:True:=⟨⟩
theorem tw15671759499469196073:True:=⟨⟩
theorem tw12135944441218938586:True:=⟨⟩
theorem tw14315596713757246376:True:=⟨⟩
theorem tw1663905904136844542:True:=⟨⟩
theorem tw8422885178137217015:True:=⟨⟩
theorem tw3395631484473367562:True:=⟨⟩
theorem tw11778516224108061855:True:=⟨⟩
theorem tw7825117337415621363:True:=⟨⟩
theorem tw4723811920004150440:True:=⟨⟩
theorem tw12770898415696085532:True:=⟨⟩
theorem tw13328237483194612496:True:=⟨⟩
theorem tw16846043954758555885:True:=⟨⟩
theorem tw16027118832707913470:True:=⟨⟩
theorem tw12183018104052408863:True:=⟨⟩
theorem tw14798113249726270245:True:=⟨⟩
theorem tw373746310455576031:True:=⟨⟩
theorem tw14607805319323590654:True:=⟨⟩
theorem tw10167943460884282498:True:=⟨⟩
theorem tw16342447290564115016:True:=⟨⟩
theorem tw9835884596907502271:True:=⟨⟩
theorem tw8104439258242929956:True:=⟨⟩
theorem tw773958500127099847:True:=⟨⟩
theorem tw3060876056921785755:True:=⟨⟩
theorem tw11961943372822684646:True:=⟨⟩
theorem tw10755459720794409420:True:=⟨⟩
theorem tw14601985849578045844:True:=⟨⟩
theorem tw11593012728237963629:True:=⟨⟩
theorem tw8553369584238293326:True:=⟨⟩
theorem tw6403488852579964467:True:=⟨⟩
theorem tw8413570540282518437:True:=⟨⟩
theorem tw8744566173693633697:True:=⟨⟩
theorem tw14879647811224861951:True:=⟨⟩
theorem tw10516860605408265601:True:=⟨⟩
theorem tw1660052291252581513:True:=⟨⟩
theorem tw10323199217858002128:True:=⟨⟩
theorem tw3925362455117541470:True:=⟨⟩
theorem tw3682151275230039342:True:=⟨⟩
theorem tw16794769378862942674:True:=⟨⟩
theorem tw6967635932069163343:True:=⟨⟩
theorem tw6823472764152619044:True:=⟨⟩
theorem tw12717883210598036557:True:=⟨⟩
theorem tw2771286297354751800:True:=⟨⟩
theorem tw6463736152956355101:True:=⟨⟩
theorem tw710135517298956209:True:=⟨⟩
theorem tw15436331940102281189:True:=⟨⟩
theorem tw12154704184865269299:True:=⟨⟩
theorem tw10613282644276631321:True:=⟨⟩
theorem tw1483718479236370875:True:=⟨⟩
theorem tw12904533538884419606:True:=⟨⟩
theorem tw2078137518514414580:True:=⟨⟩
theorem tw2833228241358903168:True:=⟨⟩
theorem tw10554734912095248801:True:=⟨⟩
theorem tw14756581903460513985:True:=⟨⟩
theorem tw17894873073772762169:True:=⟨⟩
theorem tw4480527179791271124:True:=⟨⟩
theorem tw14412785518324576391:True:=⟨⟩
theorem tw17739124958904594159:True:=⟨⟩
theorem tw12823828792022445262:True:=⟨⟩
theorem tw9730199973595222850:True:=⟨⟩
theorem tw2014649426077367855:True:=⟨⟩
theorem tw106112439452743992:True:=⟨⟩
theorem tw8219391615069930281:True:=⟨⟩
theorem tw9770971566309781487:True:=⟨⟩
theorem tw3284035939304303193:True:=⟨⟩
theorem tw10175990794904870143:True:=⟨⟩
theorem tw1809119053257510233:True:=⟨⟩
theorem tw6542277094656847107:True:=⟨⟩
theorem tw3354408265546598580:True:=⟨⟩
theorem tw12063826053848419290:True:=⟨⟩
theorem tw894741767549776074:True:=⟨⟩
theorem tw18014171288963579903:True:=⟨⟩
theorem tw8299021436417021877:True:=⟨⟩
theorem tw13214062930146049347:True:=⟨⟩
theorem tw13525526228329756396:True:=⟨⟩
theorem tw7893306569366620374:True:=⟨⟩
theorem tw17391943225526731950:True:=⟨⟩
theorem tw17327310396688936883:True:=⟨⟩
theorem tw8243403090791255047:True:=⟨⟩
theorem tw14869103009170582480:True:=⟨⟩
theorem tw17474963777061975487:True:=⟨⟩
theorem tw6462597742743547054:True:=⟨⟩
theorem tw12405852243563993575:True:=⟨⟩
theorem tw16887106892349638998:True:=⟨⟩
theorem tw16187342789504929669:True:=⟨⟩
theorem tw9248917792392090925:True:=⟨⟩
theorem tw5809828941901590533:True:=⟨⟩
theorem tw12070517745742822824:True:=⟨⟩
theorem tw17623285029994574390:True:=⟨⟩
theorem tw9679039110744332818:True:=⟨⟩
theorem tw5209599927543614799:True:=⟨⟩
theorem tw3289084381420461207:True:=⟨⟩
theorem tw14797226867122645404:True:=⟨⟩
theorem tw8154359934628157845:True:=⟨⟩
theorem tw3559468967954856830:True:=⟨⟩
theorem tw12044885635327742261:True:=⟨⟩
theorem tw2383128721621195711:True:=⟨⟩
theorem tw9992584788526495230:True:=⟨⟩
theorem tw485513374126286746:True:=⟨⟩
theorem tw13373103675448666356:True:=⟨⟩
theorem tw13807899248550192348:True:=⟨⟩
theorem tw15071052757177155166:True:=⟨⟩
theorem tw13065247531966031876:True:=⟨⟩
theorem tw16984110820284174985:True:=⟨⟩
theorem tw2259804286650406045:True:=⟨⟩
theorem tw11295306036183118422:True:=⟨⟩
theorem tw17483345564422880690:True:=⟨⟩
theorem tw5377203668338162494:True:=⟨⟩
theorem tw12370019216172942017:True:=⟨⟩
theorem tw16578297474603626273:True:=⟨⟩
theorem tw2799005224342938986:True:=⟨⟩
theorem tw8227068698802199322:True:=⟨⟩
theorem tw182208452611165104:True:=⟨⟩
theorem tw16635446234515769458:True:=⟨⟩
theorem tw10481736999865388761:True:=⟨⟩
theorem tw16420274700956255474:True:=⟨⟩
theorem tw2770179567877360135:True:=⟨⟩
theorem tw16580654626741310878:True:=⟨⟩
theorem tw10884159989974107487:True:=⟨⟩
theorem tw3911381680208205810:True:=⟨⟩
theorem tw15671105898489342043:True:=⟨⟩
theorem tw2467259258581419049:True:=⟨⟩
theorem tw17020275686992863000:True:=⟨⟩
theorem tw9942432735814991385:True:=⟨⟩
theorem tw18181812045882021439:True:=⟨⟩
theorem tw13977702166426465047:True:=⟨⟩
theorem tw10693214116519122071:True:=⟨⟩
end PySem.W.Fast
open PySem PySem.W PyProof.Rows
set_option maxRecDepth 100000 in
set_option maxHeartbeats 0 in
theorem PySem.Challenge.cw_hostfields_k79_texts_of_no_paper_holds : PySem.Challenge.rw_hostfields_k79_texts_of_no_paper.Holds := by
  w_on; o_law; k_head; (case hw => w_witness2)
  k_fill
  first | refine G.walk (l := PySem.Challenge.rw_hostfields_k79_texts_of_no_paper) rfl rfl (fun w h Y => PySem.W.kIn_of Y) ?F | refine G.walk (l := PySem.Challenge.rw_hostfields_k79_texts_of_no_paper) rfl rfl (fun w h Y => PySem.W.km_in_of Y) ?F
  case F =>
    intro w mg fa h KX GG hmg
    refine' G.all_mk KX GG hmg ?e_FIGURES ?e_MOST_FIGURES ?e_WANTED ?l_WANTED ?r_WANTED ?hD ?_ ?_ ?_ ?_ ?_ ?_ ?_ ?_ ?_ ?_ ?_ ?_ ?_ ?_ ?_ ?_ ?_ ?_ ?_ ?_ ?_ ?_ ?_ ?_ ?_ ?z_ValueError ?z_all ?z_bool ?z_enumerate ?z_int ?z_isinstance ?z_len ?z_range ?z_str ?z_tuple ?e_HostError ?kk_HostError ?tt_HostError ?nn_HostError ?e_NoBattle ?kk_NoBattle ?tt_NoBattle ?nn_NoBattle ?e_NoPlan ?kk_NoPlan ?tt_NoPlan ?nn_NoPlan ?e_NoMix ?kk_NoMix ?tt_NoMix ?nn_NoMix ?e_NoStream ?kk_NoStream ?tt_NoStream ?nn_NoStream ?e_NoSide ?kk_NoSide ?tt_NoSide ?nn_NoSide ?e_NoAlike ?kk_NoAlike ?tt_NoAlike ?nn_NoAlike ?e_NoNumber ?kk_NoNumber ?tt_NoNumber ?nn_NoNumber ?e_TooGreat ?kk_TooGreat ?tt_TooGreat ?nn_TooGreat ?e_NoEven ?kk_NoEven ?tt_NoEven ?nn_NoEven ?e_NoText ?kk_NoText ?tt_NoText ?nn_NoText ?e_NoRow ?kk_NoRow ?tt_NoRow ?nn_NoRow ?e_NoName ?kk_NoName ?tt_NoName ?nn_NoName ?e_NoPlace ?kk_NoPlace ?tt_NoPlace ?nn_NoPlace ?bb_HostError ?x_HostError ?ob_NoText ?in_NoText ?ty_NoText ?sa_NoText ?nf_NoText ?hd_NoText ?li_NoText ?ci_NoText ?ki_NoText ?f1_NoText ?f2_NoText ?f3_NoText ?f4_NoText ?f5_NoText ?f6_NoText ?s_NoText_HostError ?s_NoText_NoBattle ?s_NoText_NoPlan ?s_NoText_NoMix ?s_NoText_NoStream ?s_NoText_NoSide ?s_NoText_NoAlike ?s_NoText_NoNumber ?s_NoText_TooGreat ?s_NoText_NoEven ?s_NoText_NoText ?s_NoText_NoRow ?s_NoText_NoName ?s_NoText_NoPlace
    (case e_FIGURES => k_is)
    (case e_MOST_FIGURES => k_is)
    (case e_WANTED => k_is)
    (case l_WANTED => k_is)
    (case r_WANTED => rfl)
    (case hD => k_is)
    (case z_ValueError => k_is)
    (case z_all => k_is)
    (case z_bool => k_is)
    (case z_enumerate => k_is)
    (case z_int => k_is)
    (case z_isinstance => k_is)
    (case z_len => k_is)
    (case z_range => k_is)
    (case z_str => k_is)
    (case z_tuple => k_is)
    (case e_HostError => k_is)
    (case kk_HostError => k_is)
    (case tt_HostError => k_is)
    (case nn_HostError => k_is)
    (case e_NoBattle => k_is)
    (case kk_NoBattle => k_is)
    (case tt_NoBattle => k_is)
    (case nn_NoBattle => k_is)
    (case e_NoPlan => k_is)
    (case kk_NoPlan => k_is)
    (case tt_NoPlan => k_is)
    (case nn_NoPlan => k_is)
    (case e_NoMix => k_is)
    (case kk_NoMix => k_is)
    (case tt_NoMix => k_is)
    (case nn_NoMix => k_is)
    (case e_NoStream => k_is)
    (case kk_NoStream => k_is)
    (case tt_NoStream => k_is)
    (case nn_NoStream => k_is)
    (case e_NoSide => k_is)
    (case kk_NoSide => k_is)
    (case tt_NoSide => k_is)
    (case nn_NoSide => k_is)
    (case e_NoAlike => k_is)
    (case kk_NoAlike => k_is)
    (case tt_NoAlike => k_is)
    (case nn_NoAlike => k_is)
    (case e_NoNumber => k_is)
    (case kk_NoNumber => k_is)
    (case tt_NoNumber => k_is)
    (case nn_NoNumber => k_is)
    (case e_TooGreat => k_is)
    (case kk_TooGreat => k_is)
    (case tt_TooGreat => k_is)
    (case nn_TooGreat => k_is)
    (case e_NoEven => k_is)
    (case kk_NoEven => k_is)
    (case tt_NoEven => k_is)
    (case nn_NoEven => k_is)
    (case e_NoText => k_is)
    (case kk_NoText => k_is)
    (case tt_NoText => k_is)
    (case nn_NoText => k_is)
    (case e_NoRow => k_is)
    (case kk_NoRow => k_is)
    (case tt_NoRow => k_is)
    (case nn_NoRow => k_is)
    (case e_NoName => k_is)
    (case kk_NoName => k_is)
    (case tt_NoName => k_is)
    (case nn_NoName => k_is)
    (case e_NoPlace => k_is)
    (case kk_NoPlace => k_is)
    (case tt_NoPlace => k_is)
    (case nn_NoPlace => k_is)
    (case bb_HostError => k_is)
    (case x_HostError => k_exc)
    (case ob_NoText => k_is)
    (case in_NoText => k_is)
    (case ty_NoText => k_is)
    (case sa_NoText => k_is)
    (case nf_NoText => k_is)
    (case hd_NoText => k_is)
    (case li_NoText => k_is)
    (case ci_NoText => k_is)
    (case ki_NoText => k_is)
    (case f1_NoText => k_is)
    (case f2_NoText => k_is)
    (case f3_NoText => k_is)
    (case f4_NoText => k_is)
    (case f5_NoText => k_is)
    (case f6_NoText => k_is)
    (case s_NoText_HostError => k_is)
    (case s_NoText_NoBattle => k_is)
    (case s_NoText_NoPlan => k_is)
    (case s_NoText_NoMix => k_is)
    (case s_NoText_NoStream => k_is)
    (case s_NoText_NoSide => k_is)
    (case s_NoText_NoAlike => k_is)
    (case s_NoText_NoNumber => k_is)
    (case s_NoText_TooGreat => k_is)
    (case s_NoText_NoEven => k_is)
    (case s_NoText_NoText => k_is)
    (case s_NoText_NoRow => k_is)
    (case s_NoText_NoName => k_is)
    (case s_NoText_NoPlace => k_is)
    all_goals (apply G.FA.of; k_is; k_is; k_is; k_is)
