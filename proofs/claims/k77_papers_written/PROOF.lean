import PyProof.Rows.All
import Wide.All
import OpenK.AllK
import Wide.FinOn
import Lean
import PyProof.EqAt
import PyProof.EqKinds
import PyProof.TupleCall
import PyProof.NeKinds
import PyProof.CompFree
import PyProof.EnumMake
import KE.KTryMore
import PyProof.ExcArgsOwn
import PyProof.ZipIter
import PyProof.ListRange
import KE.KIsAll
import PyProof.InstStoreFacts
import PyProof.ExcInit
import PyProof.ReprRoads
import PyProof.CallStr
import KE.KEqDict
import PyProof.EqLayable
import KE.KRevIter
import PyProof.CollectIter
import PyProof.Rows.SetFrom
import PyProof.TupleKey
import PyProof.SetScanFacts
import KE.KSortKey
import PyProof.StrLawsRepr
import PySem.Challenge.RW_hostfields_k77_papers_written
set_option bootstrap.genMatcherCode false
set_option genSizeOf false
noncomputable section
set_option Elab.async false
set_option linter.all false
set_option maxRecDepth 100000
/-! THE HAND LAYER, for ints, bools, texts, own classes, LISTS and tuples (index, slices, in, append, pop ..), calls, loops. Paste it whole ahead of your own text; what your proof does not reach may be deleted. -/
namespace L2
open PySem PySem.Spec PyProof.Rows

/-- a key: an int or a str -/
noncomputable abbrev Key := Sum Int Str
noncomputable def keyIs : Key → Value → Bool
  | .inl k, v => Value.isInt k v
  | .inr x, v => Value.isStrOf x v
noncomputable def keyH (w : World) : Key → Int
  | .inl k => hashInt k
  | .inr x => hashStr w x
theorem keyIs_shape : ∀ {k : Key} {v : Value}, keyIs k v = true → (∃ i t, k = Sum.inl i ∧ v = Value.int i t) ∨ (∃ x t, k = Sum.inr x ∧ v = Value.str x t)
  | .inl i, v, h => by
    obtain ⟨t, e⟩ := Value.isInt_shape (k := i) (v := v) h
    exact .inl ⟨i, t, rfl, e⟩
  | .inr x, v, h => by
    obtain ⟨t, e⟩ := Value.isStrOf_shape (x := x) (v := v) h
    exact .inr ⟨x, t, rfl, e⟩
theorem keyIs_int (i : Int) (t : Tok) : keyIs (.inl i) (.int i t) = true := by simp [keyIs, Value.isInt]
theorem keyIs_str (x : Str) (t : Tok) : keyIs (.inr x) (.str x t) = true := by simp [keyIs, Value.isStrOf]
theorem key_ll (a b : Int) : decide ((Sum.inl a : Key) = Sum.inl b) = (a == b) := by
  by_cases e : a = b
  · subst e; simp
  · have h : ¬ (Sum.inl a : Key) = Sum.inl b := fun q => e (Sum.inl.inj q)
    rw [decide_eq_false h]
    exact (beq_eq_false_iff_ne.mpr e).symm
theorem key_rr (a b : Str) : decide ((Sum.inr a : Key) = Sum.inr b) = decide (a = b) := by
  by_cases e : a = b
  · subst e; simp
  · have h : ¬ (Sum.inr a : Key) = Sum.inr b := fun q => e (Sum.inr.inj q)
    rw [decide_eq_false h, decide_eq_false e]
theorem key_lr (a : Int) (b : Str) : decide ((Sum.inl a : Key) = Sum.inr b) = false := decide_eq_false (fun q => nomatch q)
theorem key_rl (a : Str) (b : Int) : decide ((Sum.inr a : Key) = Sum.inl b) = false := decide_eq_false (fun q => nomatch q)

noncomputable def mixKind (prog : Program) (w : World) : PySem.KeyKind prog w Key where
  is := keyIs
  hash := keyH w
  inj := fun v a b ha hb => by
    rcases keyIs_shape ha with ⟨i, t, rfl, rfl⟩ | ⟨x, t, rfl, rfl⟩
    · rcases keyIs_shape hb with ⟨j, u, rfl, e⟩ | ⟨y, u, rfl, e⟩
      · injection e with e1 _; rw [e1]
      · exact nomatch e
    · rcases keyIs_shape hb with ⟨j, u, rfl, e⟩ | ⟨y, u, rfl, e⟩
      · exact nomatch e
      · injection e with e1 _; rw [e1]
  byValue := fun k v h => by
    rcases keyIs_shape h with ⟨i, t, rfl, rfl⟩ | ⟨x, t, rfl, rfl⟩ <;> rfl
  pyHash := fun hv h => by
    rcases keyIs_shape hv with ⟨i, t, rfl, rfl⟩ | ⟨x, t, rfl, rfl⟩
    · exact wpAny_pyHash_int h
    · exact wpAny_pyHash_str h
  eqBool := fun hu hv h => by
    rcases keyIs_shape hu with ⟨i, t, rfl, rfl⟩ | ⟨x, t, rfl, rfl⟩
    · rcases keyIs_shape hv with ⟨j, u, rfl, rfl⟩ | ⟨y, u, rfl, rfl⟩
      · rw [key_ll] at h; exact wpAny_eqBool_int h
      · rw [key_lr] at h; exact SeqAt.EqAt.int_str i t y u _ _ _ _ h
    · rcases keyIs_shape hv with ⟨j, u, rfl, rfl⟩ | ⟨y, u, rfl, rfl⟩
      · rw [key_rl] at h; exact SeqAt.EqAt.str_int x t j u _ _ _ _ h
      · rw [key_rr] at h; exact wpAny_eqBool_str h
  «strs» := fun k x t v h => by
    rcases keyIs_shape h with ⟨i, u, rfl, e⟩ | ⟨y, u, rfl, e⟩
    · exact nomatch e
    · injection e with e1 _
      subst e1
      cases v <;> rfl

theorem mixKind_int (prog : Program) (w : World) (i : Int) (t : Tok) : (mixKind prog w).is (.inl i) (.int i t) = true := keyIs_int i t
theorem mixKind_str (prog : Program) (w : World) (x : Str) (t : Tok) : (mixKind prog w).is (.inr x) (.str x t) = true := keyIs_str x t
end L2

namespace L2
open PySem PySem.Spec PyProof.Rows

/-- a value, without the heap -/
inductive V where
  | non | bl (b : Bool) | int (i : Int) | str (x : Str) | byt (b : Array UInt8) | flt (b : UInt64) | ref (a : Addr) | ty (n : String)
  deriving DecidableEq

noncomputable def RelV : V → Value → Prop
  | .non, u => u = Value.none
  | .bl b, u => u = Value.bool b
  | .int i, u => ∃ t, u = Value.int i t
  | .str x, u => ∃ t, u = Value.str x t
  | .byt b, u => ∃ t, u = Value.bytes b t
  | .flt b, u => ∃ t, u = Value.float b t
  | .ref a, u => u = Value.ref a
  | .ty n, u => u = Value.type n

noncomputable abbrev Vals : List V → List Value → Prop := Paired RelV
theorem Vals.length {xs : List V} {us : List Value} (r : Vals xs us) : xs.length = us.length := Paired.length r
theorem Vals.get : ∀ {xs : List V} {us : List Value} {i : Nat} {x : V}, Vals xs us → xs[i]? = some x → ∃ u, us[i]? = some u ∧ RelV x u
  | _, _, _, _, .nil, e => by simp at e
  | _, _, 0, _, .cons r _, e => by simp at e; subst e; exact ⟨_, rfl, r⟩
  | _, _, i + 1, x, .cons _ t, e => by
    obtain ⟨u, h1, h2⟩ := Vals.get (i := i) (x := x) t (by simpa using e)
    exact ⟨u, by simpa using h1, h2⟩
theorem Vals.set {x : V} {u : Value} (r : RelV x u) : ∀ {xs : List V} {us : List Value} (i : Nat), Vals xs us → Vals (xs.set i x) (us.set i u)
  | _, _, _, .nil => .nil
  | _, _, 0, .cons _ t => .cons r t
  | _, _, i + 1, .cons q t => .cons q (Vals.set r i t)
theorem Vals.append : ∀ {xs ys : List V} {us ws : List Value}, Vals xs us → Vals ys ws → Vals (xs ++ ys) (us ++ ws)
  | _, _, _, _, .nil, s => s
  | _, _, _, _, .cons r t, s => .cons r (Vals.append t s)
theorem Vals.take : ∀ {xs : List V} {us : List Value} (n : Nat), Vals xs us → Vals (xs.take n) (us.take n)
  | _, _, 0, _ => .nil
  | _, _, _ + 1, .nil => .nil
  | _, _, n + 1, .cons r t => .cons r (Vals.take n t)
theorem Vals.drop : ∀ {xs : List V} {us : List Value} (n : Nat), Vals xs us → Vals (xs.drop n) (us.drop n)
  | _, _, 0, r => r
  | _, _, _ + 1, .nil => .nil
  | _, _, n + 1, .cons _ t => Vals.drop n t
noncomputable def RelO : Option V → Option Value → Prop
  | some v, some u => RelV v u
  | none, none => True
  | _, _ => False
noncomputable def KV {κ : Type} : List (κ × V) → List (κ × Value) → Prop := Paired fun (p : κ × V) (q : κ × Value) => p.1 = q.1 ∧ RelV p.2 q.2

/-- a key of a dict (00_mix): an int or a text -/
noncomputable def kV : Key → V
  | .inl i => .int i
  | .inr x => .str x

/-- what stands at a tracked address -/
inductive HO where
  /-- a list -/
  | lst (xs : List V)
  /-- a tuple (never changes) -/
  | tup (xs : List V)
  /-- a dict whose keys are ints and texts; one whose keys are tuples of ints and texts (the empty one is both) -/
  | dK (kvs : List (Key × V)) | dT (kvs : List (List Key × V))
  /-- a set of ints: its members, its size -/
  | set (S : Int → Bool) (n : Nat)
  /-- an instance of the class at C, its dict at dx, its attributes -/
  | ins (C dx : Addr) (fs : List (Str × V))
  /-- the dict of the instance at x -/
  | own (x : Addr)
  /-- the dict of an exception -/
  | xd (fs : List (Str × V))
  /-- a bound method, f of x -/
  | met (f x : Addr)
  /-- a range object lo, lo + 1, .. below hi -/
  | rng (lo hi : Int)
  /-- a thing that is known to the object (the script; a dict while a loop walks it): read, never written while it is so -/
  | frz (o : Obj) (u : HO)
  /-- a code object's table -/
  | tbl (ps : Array Value)
  /-- any other thing, by what is true of its one object (a def of one's own: SetO a S n := HO.ext fun h => ..) -/
  | ext (φ : Heap → Prop)

noncomputable abbrev Hp := Addr → Option HO
noncomputable def upd (H : Hp) (a : Addr) (o : HO) : Hp := fun b => if b = a then some o else H b
theorem upd_same {H : Hp} {a : Addr} {o : HO} : upd H a o a = some o := by unfold upd; rw [if_pos rfl]
theorem upd_ne {H : Hp} {a b : Addr} {o : HO} (h : b ≠ a) : upd H a o b = H b := by unfold upd; rw [if_neg h]
/-- two objects of different content stand apart -/
theorem ne_of {H : Hp} {a b : Addr} {o u : HO} (h : H a = some o) (h' : H b = some u) (d : o ≠ u) : a ≠ b := by
  intro e; subst e; rw [h] at h'; exact d (Option.some.inj h')
theorem ne_of_none {H : Hp} {a b : Addr} {o : HO} (h : H a = some o) (h' : H b = none) : a ≠ b := by
  intro e; subst e; rw [h] at h'; cases h'

section
variable (P : Program) (w : World)
noncomputable def ObjOk (H : Hp) (h : Heap) (a : Addr) : HO → Prop
  | .lst xs => xs.length ≤ sizeLine ∧ ∃ (its : List Value) (n : Nat), Vals xs its ∧ h.get? a = some { cls := .type "list", data := .seq its.toArray n }
  | .tup xs => xs.length ≤ sizeLine ∧ ∃ its : List Value, Vals xs its ∧ IsTup h a its.toArray
  | .dK kvs => kvs.length ≤ sizeLine ∧ (a == sysModules) = false ∧ ∃ vs, KV kvs vs ∧ h.DictOf (mixKind P w) a vs
  | .dT kvs => kvs.length ≤ sizeLine ∧ (a == sysModules) = false ∧ ∃ xs : List (List Key × Addr × Value),
      Paired (fun (p : List Key × V) (q : List Key × Addr × Value) => p.1 = q.1 ∧ H q.2.1 = some (.tup (p.1.map kV)) ∧ RelV p.2 q.2.2) kvs xs ∧
      ∃ o es ep, h.get? a = some o ∧ o.ExactDict ∧ o.data = .dict es ep ∧ es.toList = xs.map (entryOfKey (tupleKind (mixKind P w))) ∧ (xs.map (·.1)).Nodup
  | .set S n => h.SetOf (intKind P w) a S n
  | .ins C dx fs => H dx = some (.own a) ∧ fs.length ≤ 1000 ∧ dx ≠ a ∧ h.get? a = some (PySem.W.instObj C dx) ∧
      ∃ mA, h.Ns1 dx mA ∧ (∀ f, RelO (fs.lookup f) (mA f)) ∧ PySem.Within mA (fs.map (·.1))
  | .own _ => ∃ o, h.get? a = some o
  | .xd fs => ∃ mA, h.Ns1 a mA ∧ ∀ f, RelO (fs.lookup f) (mA f)
  | .rng lo hi => ∃ t u v, h.get? a = some { cls := .type "range", data := .fields #[.int lo t, .int hi u, .int 1 v] }
  | .frz o u => h.get? a = some o ∧ ObjOk H h a u
  | .tbl ps => h.get? a = some { cls := .none, data := .fields ps }
  | .met f x => h.get? a = some (PySem.W.methodObj (.ref f) (.ref x))
  | .ext φ => φ h ∧ (∃ o, h.get? a = some o) ∧ ∀ h1 h2 : Heap, φ h1 → (∀ o, h1.get? a = some o → h2.get? a = some o) → φ h2
/-- the abstract heap is held -/
noncomputable def HOk (H : Hp) (h : Heap) : Prop := ∀ a o, H a = some o → ObjOk P w H h a o
end

section
variable {P : Program} {w : World} {H H' : Hp} {h h' : Heap} {a : Addr} {o : HO}
theorem ObjOk.lt (x : ObjOk P w H h a o) : a < h.objs.size := by
  cases o with
  | lst xs => obtain ⟨_, _, _, _, e⟩ := x; exact Heap.lt_size e
  | tup xs => obtain ⟨_, _, _, p⟩ := x; exact p.lt
  | dK kvs => obtain ⟨_, _, _, _, o, _, _, e, _⟩ := x; exact Heap.lt_size e
  | dT kvs => obtain ⟨_, _, _, _, o, _, _, e, _⟩ := x; exact Heap.lt_size e
  | set S n => obtain ⟨o, _, _, _, e, _⟩ := x; exact Heap.lt_size e
  | ins C dx fs => obtain ⟨_, _, _, e, _⟩ := x; exact Heap.lt_size e
  | own y => obtain ⟨_, e⟩ := x; exact Heap.lt_size e
  | xd fs => obtain ⟨_, ⟨_, _, _, e, _⟩, _⟩ := x; exact Heap.lt_size e
  | rng lo hi => obtain ⟨_, _, _, e⟩ := x; exact Heap.lt_size e
  | frz ob u => obtain ⟨e, _⟩ := x; exact Heap.lt_size e
  | tbl ps => exact Heap.lt_size (show h.get? a = some _ from x)
  | met f y => exact Heap.lt_size (show h.get? a = some _ from x)
  | ext φ => obtain ⟨_, ⟨_, e⟩, _⟩ := x; exact Heap.lt_size e
theorem Paired.mapP {α β : Type} {F G : α → β → Prop} : ∀ {l₁ : List α} {l₂ : List β}, Paired F l₁ l₂ → (∀ a b, F a b → G a b) → Paired G l₁ l₂
  | _, _, .nil, _ => .nil
  | _, _, .cons r t, f => .cons (f _ _ r) (Paired.mapP t f)
/-- what an object's description leans on: its own object, its own dict, the tuples -/
theorem ObjOk.stay (x : ObjOk P w H h a o) (k : ∀ b u, (b = a ∨ H b = some (.own a)) → h.get? b = some u → h'.get? b = some u)
    (ho : ∀ b, H b = some (.own a) → H' b = some (.own a)) (ht : ∀ b xs, H b = some (.tup xs) → H' b = some (.tup xs)) : ObjOk P w H' h' a o := by
  induction o with
  | lst xs => obtain ⟨z, its, n, r, e⟩ := x; exact ⟨z, its, n, r, k _ _ (.inl rfl) e⟩
  | tup xs => obtain ⟨z, its, r, ob, e, c⟩ := x; exact ⟨z, its, r, ob, k _ _ (.inl rfl) e, c⟩
  | dK kvs => obtain ⟨z, y, vs, r, ob, es, ep, e, c⟩ := x; exact ⟨z, y, vs, r, ob, es, ep, k _ _ (.inl rfl) e, c⟩
  | dT kvs =>
    obtain ⟨z, y, xs, r, ob, es, ep, e, c⟩ := x
    exact ⟨z, y, xs, Paired.mapP r fun p q z => ⟨z.1, ht _ _ z.2.1, z.2.2⟩, ob, es, ep, k _ _ (.inl rfl) e, c⟩
  | set S n => obtain ⟨ob, es, ep, t, e, c⟩ := x; exact ⟨ob, es, ep, t, k _ _ (.inl rfl) e, c⟩
  | ins C dx fs =>
    obtain ⟨d, z, ne, e, mA, ⟨od, es, ep, e2, c⟩, r⟩ := x
    exact ⟨ho _ d, z, ne, k _ _ (.inl rfl) e, mA, ⟨od, es, ep, k _ _ (.inr d) e2, c⟩, r⟩
  | own y => obtain ⟨ob, e⟩ := x; exact ⟨ob, k _ _ (.inl rfl) e⟩
  | xd fs => obtain ⟨mA, ⟨od, es, ep, e, c⟩, r⟩ := x; exact ⟨mA, ⟨od, es, ep, k _ _ (.inl rfl) e, c⟩, r⟩
  | rng lo hi => obtain ⟨t, u, v, e⟩ := x; exact ⟨t, u, v, k _ _ (.inl rfl) e⟩
  | frz ob u ih => obtain ⟨e, q⟩ := x; exact ⟨k _ _ (.inl rfl) e, ih q⟩
  | tbl ps =>
    have e : h.get? a = some { cls := .none, data := .fields ps } := x
    show h'.get? a = some { cls := .none, data := .fields ps }
    exact k a _ (.inl rfl) e
  | met f y =>
    have e : h.get? a = some (PySem.W.methodObj (.ref f) (.ref y)) := x
    show h'.get? a = some (PySem.W.methodObj (.ref f) (.ref y))
    exact k a _ (.inl rfl) e
  | ext φ => obtain ⟨p, ⟨o, e⟩, st⟩ := x; exact ⟨st _ _ p fun o q => k _ _ (.inl rfl) q, ⟨o, k _ _ (.inl rfl) e⟩, st⟩
theorem HOk.lt (x : HOk P w H h) (e : H a = some o) : a < h.objs.size := (x a o e).lt
theorem HOk.fresh (x : HOk P w H h) (e : h.objs.size ≤ a) : H a = none := by
  cases q : H a with
  | none => rfl
  | some u => exact absurd (Nat.lt_of_lt_of_le (x.lt q) e) (Nat.lt_irrefl _)
/-- every object of the heap is kept -/
theorem HOk.kept (x : HOk P w H h) (k : ∀ b u, h.get? b = some u → h'.get? b = some u) : HOk P w H h' := fun a o e =>
  (x a o e).stay (fun b u _ q => k b u q) (fun _ q => q) fun _ _ q => q
/-- a new object is laid and tracked -/
theorem HOk.laid (x : HOk P w H h) (k : ∀ b u, h.get? b = some u → h'.get? b = some u) (hp : h.objs.size ≤ a) (new : ObjOk P w (upd H a o) h' a o) : HOk P w (upd H a o) h' := fun b u e => by
  have hn := x.fresh hp
  by_cases hb : b = a
  · subst hb; rw [upd_same] at e; cases e; exact new
  · rw [upd_ne hb] at e
    exact (x b u e).stay (fun c v _ q => k c v q) (fun c q => by rw [upd_ne (ne_of_none q hn)]; exact q) fun c xs q => by rw [upd_ne (ne_of_none q hn)]; exact q
end

/-- what may be read as u: it is u, or a known u -/
noncomputable def Rd (H : Hp) (a : Addr) (u : HO) : Prop := H a = some u ∨ ∃ o, H a = some (.frz o u)
theorem Rd.of {H : Hp} {a : Addr} {u : HO} (h : H a = some u) : Rd H a u := .inl h
theorem Rd.ok {P : Program} {w : World} {H : Hp} {h : Heap} {a : Addr} {u : HO} (r : Rd H a u) (x : HOk P w H h) : ObjOk P w H h a u := by
  rcases r with r | ⟨o, r⟩
  · exact x a u r
  · obtain ⟨_, q⟩ := x a _ r
    exact q
/-- what may be written -/
noncomputable def Mut : Option HO → Prop
  | some (.lst _) => True
  | some (.dK _) => True
  | some (.dT _) => True
  | some (.set _ _) => True
  | some (.ins _ _ _) => True
  | some (.ext _) => True
  | _ => False
section
variable {P : Program} {w : World} {H : Hp} {h h' : Heap} {x e : Addr} {o' : HO}
/-- the object at e is changed: x itself, or the dict of the instance x -/
theorem HOk.write (ok : HOk P w H h) (mu : Mut (H x)) (he : e = x ∨ H e = some (.own x)) (k : ∀ b u, b ≠ e → h.get? b = some u → h'.get? b = some u) (heo : ∃ u, h'.get? e = some u)
    (new : ObjOk P w (upd H x o') h' x o') : HOk P w (upd H x o') h' := fun b u q => by
  have nown : ∀ c y, H c = some (.own y) → c ≠ x := fun c y r z => by subst z; rw [r] at mu; exact mu
  have ntup : ∀ c xs, H c = some (.tup xs) → c ≠ x := fun c xs r z => by subst z; rw [r] at mu; exact mu
  by_cases hb : b = x
  · subst hb; rw [upd_same] at q; cases q; exact new
  · rw [upd_ne hb] at q
    by_cases hbe : b = e
    · have q' : H b = some (.own x) := by
        rcases he with z | z
        · exact absurd (hbe.trans z) hb
        · rw [hbe]; exact z
      rw [q] at q'; cases q'
      obtain ⟨v, hv⟩ := heo
      exact ⟨v, by rw [hbe]; exact hv⟩
    · refine (ok b u q).stay (fun c v hc r => k c v ?_ r) (fun c r => by rw [upd_ne (nown c b r)]; exact r) fun c xs r => by rw [upd_ne (ntup c xs r)]; exact r
      rcases hc with rfl | hc
      · exact hbe
      · rintro rfl
        rcases he with z | z
        · exact nown c b hc z
        · rw [hc] at z; cases z; exact hb rfl
end

/-! ### kept unless tracked; of the frames at fs (the callers') the slots may change (an exception that passes writes there); of the records at ex (iterators) nothing is said -/
structure Un (fs ex : List Addr) (H H' : Hp) (h h' : Heap) : Prop where
  keep : ∀ b o, h.get? b = some o → H b = none → b ∉ fs → b ∉ ex → h'.get? b = some o
  slot : ∀ b o, h.get? b = some o → H b = none → b ∈ fs → b ∉ ex → ∃ sl, h'.get? b = some { o with slots := sl }
  free : ∀ b o, h.get? b = some o → H b = none → b ∉ ex → H' b = none
  there : ∀ b o, h.get? b = some o → b ∉ ex → ∃ o', h'.get? b = some o'
  tups : ∀ b xs, H b = some (.tup xs) → H' b = some (.tup xs)
  frzs : ∀ b o u, H b = some (.frz o u) → H' b = some (.frz o u)
  tbls : ∀ b ps, H b = some (.tbl ps) → ∃ more, H' b = some (.tbl (ps ++ more))
section
variable {fs fs' ex ex' : List Addr} {H H1 H2 : Hp} {h h1 h2 h' : Heap} {a x e : Addr} {o : HO}
theorem Un.any (u : Un fs ex H H1 h h1) {b : Addr} {ob : Obj} (q : h.get? b = some ob) (n : H b = none) (hx : b ∉ ex) : ∃ sl, h1.get? b = some { ob with slots := sl } := by
  by_cases hb : b ∈ fs
  · exact u.slot b ob q n hb hx
  · exact ⟨ob.slots, u.keep b ob q n hb hx⟩
theorem Un.trans (a : Un fs ex H H1 h h1) (b : Un fs ex H1 H2 h1 h2) : Un fs ex H H2 h h2 where
  keep := fun c ob q n hc hx => b.keep c ob (a.keep c ob q n hc hx) (a.free c ob q n hx) hc hx
  slot := fun c ob q n hc hx => by
    obtain ⟨sl, e1⟩ := a.slot c ob q n hc hx
    obtain ⟨sl', e2⟩ := b.slot c _ e1 (a.free c ob q n hx) hc hx
    exact ⟨sl', e2⟩
  free := fun c ob q n hx => by
    obtain ⟨o', e1⟩ := a.there c ob q hx
    exact b.free c o' e1 (a.free c ob q n hx) hx
  there := fun c ob q hx => by
    obtain ⟨o', e1⟩ := a.there c ob q hx
    exact b.there c o' e1 hx
  tups := fun c xs q => b.tups c xs (a.tups c xs q)
  frzs := fun c ob xs q => b.frzs c ob xs (a.frzs c ob xs q)
  tbls := fun c ps q => by
    obtain ⟨m1, e1⟩ := a.tbls c ps q
    obtain ⟨m2, e2⟩ := b.tbls c _ e1
    exact ⟨m1 ++ m2, by rw [e2, Array.append_assoc]⟩
theorem Un.kept (k : ∀ b u, h.get? b = some u → h'.get? b = some u) : Un fs ex H H h h' :=
  ⟨fun b ob q _ _ _ => k b ob q, fun b ob q _ _ _ => ⟨ob.slots, k b ob q⟩, fun _ _ _ n _ => n, fun b ob q _ => ⟨ob, k b ob q⟩, fun _ _ q => q, fun _ _ _ q => q, fun _ ps q => ⟨#[], by rw [q]; simp⟩⟩
theorem Un.refl : Un fs ex H H h h := Un.kept fun _ _ q => q
theorem Un.laid (k : ∀ b u, h.get? b = some u → h'.get? b = some u) (hp : h.objs.size ≤ a) (hn : H a = none) : Un fs ex H (upd H a o) h h' where
  keep := fun b u q _ _ _ => k b u q
  slot := fun b u q _ _ _ => ⟨u.slots, k b u q⟩
  free := fun b u q n _ => by rw [upd_ne (Nat.ne_of_lt (Nat.lt_of_lt_of_le (Heap.lt_size q) hp))]; exact n
  there := fun b u q _ => ⟨u, k b u q⟩
  tups := fun b xs q => by rw [upd_ne (ne_of_none q hn)]; exact q
  frzs := fun b u xs q => by rw [upd_ne (ne_of_none q hn)]; exact q
  tbls := fun b ps q => ⟨#[], by rw [upd_ne (ne_of_none q hn), q]; simp⟩
theorem Un.write (mu : Mut (H x)) (he : e = x ∨ H e = some (.own x)) (k : ∀ b u, b ≠ e → h.get? b = some u → h'.get? b = some u) (heo : ∃ u, h'.get? e = some u) : Un fs ex H (upd H x o) h h' := by
  have hx : ∀ b, H b = none → b ≠ x := fun b n z => by subst z; rw [n] at mu; exact mu
  have hb : ∀ b, H b = none → b ≠ e := fun b n z => by
    subst z
    rcases he with r | r
    · exact hx b n r
    · rw [n] at r; cases r
  have hm : ∀ b u, H b = some u → ¬ Mut (some u) → b ≠ x := fun b u q nm z => by subst z; rw [q] at mu; exact nm mu
  refine ⟨fun b u q n _ _ => k b u (hb b n) q, fun b u q n _ _ => ⟨u.slots, k b u (hb b n) q⟩, fun b u q n _ => by rw [upd_ne (hx b n)]; exact n, fun b u q _ => ?_,
    fun b xs q => by rw [upd_ne (hm b _ q fun z => z)]; exact q, fun b u xs q => by rw [upd_ne (hm b _ q fun z => z)]; exact q, fun b ps q => ⟨#[], by rw [upd_ne (hm b _ q fun z => z), q]; simp⟩⟩
  by_cases hbe : b = e
  · subst hbe; exact heo
  · exact ⟨u, k b u hbe q⟩
theorem Un.mono (u : Un fs ex H H1 h h1) (hs : ∀ b ∈ fs, b ∈ fs') (hx : ∀ b ∈ ex, b ∈ ex') : Un fs' ex' H H1 h h1 :=
  ⟨fun b ob q n hb he => u.keep b ob q n (fun z => hb (hs b z)) fun z => he (hx b z), fun _ _ q n _ he => u.any q n fun z => he (hx _ z), fun b ob q n he => u.free b ob q n fun z => he (hx b z), fun b ob q he => u.there b ob q fun z => he (hx b z), u.tups, u.frzs, u.tbls⟩
end

/-! ### the heap without what is tracked -/
noncomputable def trk (h : Heap) (H : Hp) : List Addr := (List.range h.objs.size).filter fun a => (H a).isSome
noncomputable def hidT (h : Heap) (H : Hp) : Heap := PySem.W.hideAll h (trk h H)
theorem hidT_size (h : Heap) (H : Hp) : (hidT h H).objs.size = h.objs.size := PySem.W.hideAll_size _ _
theorem hidT_get {h : Heap} {H : Hp} {b : Addr} {o : Obj} (e : h.get? b = some o) (n : H b = none) : (hidT h H).get? b = some o :=
  PySem.W.hideAll_get _ e fun hm => by
    have q : (H b).isSome = true := (List.mem_filter.mp hm).2
    rw [n] at q; simp at q
theorem of_hidT {h : Heap} {H : Hp} {b : Addr} {o : Obj} (e : (hidT h H).get? b = some o) : h.get? b = some o ∧ H b = none := by
  have e' : h.get? b = some o := PySem.W.of_hideAll (trk h H) e
  refine ⟨e', ?_⟩
  cases q : H b with
  | none => rfl
  | some x =>
    have hm : b ∈ trk h H := List.mem_filter.mpr ⟨List.mem_range.mpr (Heap.lt_size e'), by simp [q]⟩
    have z : (hidT h H).get? b = none := PySem.W.hideAll_none (trk h H) hm
    rw [z] at e; cases e

/-! ### OpenK's ledger, filled with every new object but one -/
noncomputable def allNews (g h : Heap) (L : Addr) : List (Addr × Obj) := (List.range h.objs.size).filterMap fun a => if a = L ∨ (g.get? a).isSome = true then none else (h.get? a).map fun o => (a, o)
noncomputable def rest (g h : Heap) (L d : Addr) : List (Addr × Obj) := (allNews g h L).filter fun p => decide (p.1 ≠ d)
end L2

namespace L2
open PySem PySem.Spec PyProof.Rows

/-- the module's facts, over the base: the heap at the law's entry without what is tracked there -/
structure Mod (K : PySem.W.Frag) (mg : Str → Option Value) (base : Heap) : Prop where
  kin : K.In base
  glob : base.Ns mainGlobals mg
  blt : ∃ mb, base.Ns builtinsNs mb ∧ ∀ x : Str, x ≠ "__name__" → mb x = bootBuiltins x
  nolimit : base.NoLimit

/-- the context: a def's body (or a comprehension's block) running. base: fixed through the whole law; s₀, H₀: the entry; outer: the frames whose slots others may change (a def's callers); stack: all frames that run;
   ex: iterators that were made ahead of the entry and are walked here (a comprehension's); fn: the names whose cells were made at the entry (a def: all; a comprehension's block: its own); calm: not within an except suite; pn: pins that every state bears; xe: what is wanted of an exception that leaves the code -/
structure Cx where
  prog : Program
  w : World
  K : PySem.W.Frag
  mg : Str → Option Value
  base : Heap
  A : Around
  N : List Str
  s₀ : Shared
  H₀ : Hp
  env : Env
  outer : List Env
  stack : List Env
  ex : List Addr
  fn : Str → Bool
  calm : Bool
  pn : List (Addr × Obj)
  xe : Value → Shared → Prop
/-- the callers' frames -/
noncomputable def frs (l : List Env) : List Addr := l.filterMap (·.frame)
noncomputable abbrev Cx.fs (X : Cx) : List Addr := frs X.outer

noncomputable def Vis (sc : Scope) (x : Str) : Prop := sc.names.lookup x = some .local ∨ sc.names.lookup x = some .cell ∨ sc.names.lookup x = some .free
noncomputable def Loc (sc : Scope) (x : Str) : Prop := sc.names.lookup x = some .local ∨ sc.names.lookup x = some .cell
noncomputable def Look (env : Env) (h : Heap) (m : Str → Option Value) (x : Str) (u : Value) : Prop :=
  (env.kindOf x = some .local ∧ m x = some u) ∨ ((env.kindOf x = some .cell ∨ env.kindOf x = some .free) ∧ ∃ c, env.cells.lookup x = some c ∧ h.IsCell c (some u))

structure Cx.Ok (X : Cx) : Prop where
  mod : Mod X.K X.mg X.base
  kind : X.env.scope.kind = .function
  glob : X.env.globals = mainGlobals
  blt : X.env.builtins = builtinsNs
  above : X.s₀.heap.objs.size ≤ X.env.locals
  inj : ∀ x y c, X.env.cells.lookup x = some c → X.env.cells.lookup y = some c → x = y
  has : ∀ x, (X.env.kindOf x = some .cell ∨ X.env.kindOf x = some .free) → ∃ c, X.env.cells.lookup x = some c
  cab : ∀ x c, X.fn x = true → X.env.cells.lookup x = some c → X.s₀.heap.objs.size ≤ c
  hd : X.calm = true → X.A.handled = none
  frames : X.A.frames = some X.stack
  stk : X.stack = X.outer ∨ (X.stack = X.env :: X.outer ∧ X.env.frame = some X.env.locals)
  exf : ∀ b ∈ X.ex, b ≠ X.env.locals ∧ ∀ x c, X.env.cells.lookup x = some c → c ≠ b
  bs : ∀ b o, X.base.get? b = some o → X.s₀.heap.get? b = some o ∧ X.H₀ b = none
  bsz : X.base.objs.size ≤ X.s₀.heap.objs.size
  noex : ∀ b o, X.base.get? b = some o → b ∉ X.ex
  exfs : ∀ b ∈ X.ex, b ∉ X.fs
  funs : X.s₀.heap.FunFrames X.base X.outer
  frf : ∀ b ∈ X.fs, X.H₀ b = none

structure Inv (X : Cx) (pins : List (Addr × Obj)) (σ : List (Option V)) (H : Hp) (s : Shared) : Prop where
  ok : X.Ok
  os : s.os = X.s₀.os
  bare : AllBare s.gens
  base : Un X.fs X.ex X.H₀ H X.s₀.heap s.heap
  loc : ∃ m, s.heap.Ns X.env.locals m ∧ ∀ (i : Nat) (x : Str) (v : V), X.N[i]? = some x → σ[i]? = some (some v) → Vis X.env.scope x → ∃ u, RelV v u ∧ Look X.env s.heap m x u
  cell : ∀ x c, X.env.cells.lookup x = some c → ∃ v, s.heap.IsCell c v
  free : H X.env.locals = none
  freeC : ∀ x c, X.env.cells.lookup x = some c → H c = none
  pin : ∀ p ∈ X.pn ++ pins, s.heap.get? p.1 = some p.2 ∧ H p.1 = none ∧ p.1 ≠ X.env.locals ∧ p.1 ∉ X.fs ∧ ∀ v, p.2.data ≠ .cell v
  hok : HOk X.prog X.w H s.heap
  len : σ.length = X.N.length

section
variable {X : Cx} {pins : List (Addr × Obj)} {σ : List (Option V)} {H H' : Hp} {s : Shared} {h' : Heap}

theorem Cx.Ok.nofr (ok : X.Ok) {b : Addr} {o : Obj} (e : X.base.get? b = some o) : b ∉ X.fs := fun hb => by
  have := (ok.funs.mem hb).1
  rw [e] at this; cases this
theorem Inv.bs (I : Inv X pins σ H s) : ∀ b o, X.base.get? b = some o → s.heap.get? b = some o ∧ H b = none := fun b o e =>
  ⟨I.base.keep b o (I.ok.bs b o e).1 (I.ok.bs b o e).2 (I.ok.nofr e) (I.ok.noex b o e), I.base.free b o (I.ok.bs b o e).1 (I.ok.bs b o e).2 (I.ok.noex b o e)⟩
theorem Inv.bk (I : Inv X pins σ H s) : ∀ b o, X.base.get? b = some o → s.heap.get? b = some o := fun b o e => (I.bs b o e).1
theorem Inv.mod (I : Inv X pins σ H s) : Mod X.K X.mg X.base := I.ok.mod
theorem Inv.kIn (I : Inv X pins σ H s) : X.K.In s.heap := I.ok.mod.kin.keeps I.bk
theorem Inv.lt (I : Inv X pins σ H s) : X.env.locals < s.heap.objs.size := let ⟨_, hn, _⟩ := I.loc; hn.lt
theorem Inv.sz (I : Inv X pins σ H s) : X.s₀.heap.objs.size ≤ s.heap.objs.size := Nat.le_trans I.ok.above (Nat.le_of_lt I.lt)
theorem Inv.nofs (I : Inv X pins σ H s) {a : Addr} (h : s.heap.objs.size ≤ a) : a ∉ X.fs := fun hb => by
  obtain ⟨_, o, ho, _⟩ := I.ok.funs.mem hb
  exact absurd (Nat.lt_of_lt_of_le (Heap.lt_size ho) (Nat.le_trans I.sz h)) (Nat.lt_irrefl _)
theorem Inv.cne (I : Inv X pins σ H s) : ∀ x c, X.env.cells.lookup x = some c → c ≠ X.env.locals := fun x c e z => by
  obtain ⟨v, o, ho, hd⟩ := I.cell x c e
  obtain ⟨m, ⟨o', es, ep, ho', hd', _⟩, _⟩ := I.loc
  rw [z, ho'] at ho; cases ho; rw [hd'] at hd; cases hd
theorem Inv.funs (I : Inv X pins σ H s) : s.heap.FunFrames X.base X.outer := by
  have all : ∀ (l : List Env), (∀ b ∈ frs l, b ∈ X.fs) → X.s₀.heap.FunFrames X.base l → s.heap.FunFrames X.base l := by
    intro l
    induction l with
    | nil => intro _ _; trivial
    | cons env r ih =>
      intro hs hl
      obtain ⟨hk, ⟨L, o, hf, hn, ho, hd⟩, hr⟩ := hl
      have hL : L ∈ X.fs := hs L (by unfold frs; rw [List.filterMap_cons, hf]; exact List.mem_cons_self)
      obtain ⟨sl, e⟩ := I.base.slot L o ho (I.ok.frf L hL) hL fun z => I.ok.exfs L z hL
      exact ⟨hk, ⟨L, _, hf, hn, e, hd⟩, ih (fun b hb => hs b (by unfold frs; rw [List.filterMap_cons, hf]; exact List.mem_cons_of_mem _ hb)) hr⟩
  exact all X.outer (fun _ hb => hb) I.ok.funs

/-- the frames that run, for a call -/
theorem Inv.stack (I : Inv X pins σ H s) : s.heap.FunFrames X.base X.stack := by
  rcases I.ok.stk with e | ⟨e, hf⟩
  · rw [e]; exact I.funs
  · rw [e]
    obtain ⟨m, hn, _⟩ := I.loc
    refine .cons (by rw [I.ok.kind]; decide) hf hn ?_ I.funs
    exact Heap.get?_none_of_le (Nat.le_trans I.ok.bsz I.ok.above)
theorem Inv.stkSub (I : Inv X pins σ H s) : ∀ b ∈ frs X.stack, b ∈ X.env.locals :: X.fs := fun b hb => by
  rcases I.ok.stk with e | ⟨e, hf⟩
  · rw [e] at hb; exact List.mem_cons_of_mem _ hb
  · rw [e] at hb
    unfold frs at hb
    rw [List.filterMap_cons, hf] at hb
    exact hb
theorem Inv.stkFree (I : Inv X pins σ H s) : ∀ b ∈ frs X.stack, H b = none := fun b hb => by
  rcases List.mem_cons.mp (I.stkSub b hb) with e | hb
  · rw [e]; exact I.free
  · obtain ⟨_, o, ho, _⟩ := I.ok.funs.mem hb
    exact I.base.free b o ho (I.ok.frf b hb) fun z => I.ok.exfs b z hb

/-- THE STEP: the untracked objects but the frame and the records at ch are kept (the callers' frames up to slots), the frame's map is kept, the new abstract heap is held -/
theorem Inv.step {g' : Array GenState} {t' : Nat} {d' : Drawn} {ch : List Addr} (I : Inv X pins σ H s)
    (hch : ∀ b ∈ ch, (b ∈ X.ex ∨ X.s₀.heap.objs.size ≤ b) ∧ b ≠ X.env.locals ∧ (∀ x c, X.env.cells.lookup x = some c → c ≠ b) ∧ ∀ p ∈ X.pn ++ pins, p.1 ≠ b)
    (keep : ∀ b o, b ≠ X.env.locals → b ∉ X.fs → b ∉ ch → s.heap.get? b = some o → H b = none → h'.get? b = some o)
    (slot : ∀ b o, b ≠ X.env.locals → b ∈ X.fs → b ∉ ch → s.heap.get? b = some o → H b = none → ∃ sl, h'.get? b = some { o with slots := sl }) (free : ∀ b o, b ∉ ch → s.heap.get? b = some o → H b = none → H' b = none)
    (there : ∀ b o, b ∉ ch → s.heap.get? b = some o → ∃ o', h'.get? b = some o')
    (tups : ∀ b xs, H b = some (.tup xs) → H' b = some (.tup xs)) (frzs : ∀ b o u, H b = some (.frz o u) → H' b = some (.frz o u)) (tbls : ∀ b ps, H b = some (.tbl ps) → ∃ more, H' b = some (.tbl (ps ++ more)))
    (ns : ∀ m, s.heap.Ns X.env.locals m → h'.Ns X.env.locals m) (hok : HOk X.prog X.w H' h') (hg : AllBare g') :
    Inv X pins σ H' { s with heap := h', gens := g', drawn := d', toks := t' } := by
  have neL : ∀ b o, X.s₀.heap.get? b = some o → b ≠ X.env.locals := fun b o e => Nat.ne_of_lt (Nat.lt_of_lt_of_le (Heap.lt_size e) I.ok.above)
  have neC : ∀ b o, X.s₀.heap.get? b = some o → b ∉ X.ex → b ∉ ch := fun b o e hx hb => by
    rcases (hch b hb).1 with z | z
    · exact hx z
    · exact absurd (Nat.lt_of_lt_of_le (Heap.lt_size e) z) (Nat.lt_irrefl _)
  have cellK : ∀ x c, X.env.cells.lookup x = some c → ∀ v, s.heap.IsCell c v → h'.IsCell c v := fun x c e v ⟨o, ho, hd⟩ => by
    have nch : c ∉ ch := fun z => (hch c z).2.2.1 x c e rfl
    by_cases hc : c ∈ X.fs
    · obtain ⟨sl, q⟩ := slot c o (I.cne x c e) hc nch ho (I.freeC x c e)
      exact ⟨_, q, hd⟩
    · exact ⟨o, keep c o (I.cne x c e) hc nch ho (I.freeC x c e), hd⟩
  refine ⟨I.ok, I.os, hg, ⟨fun b o e n hb hx => ?_, fun b o e n hb hx => ?_, fun b o e n hx => ?_, fun b o e hx => ?_, fun b xs e => tups b xs (I.base.tups b xs e), fun b o xs e => frzs b o xs (I.base.frzs b o xs e), fun b ps e => ?_⟩, ?_, fun x c e => ?_, ?_, fun x c e => ?_, fun p hp => ?_, hok, I.len⟩
  · exact keep b o (neL b o e) hb (neC b o e hx) (I.base.keep b o e n hb hx) (I.base.free b o e n hx)
  · obtain ⟨sl, e1⟩ := I.base.slot b o e n hb hx
    obtain ⟨sl', e2⟩ := slot b _ (neL b o e) hb (neC b o e hx) e1 (I.base.free b o e n hx)
    exact ⟨sl', e2⟩
  · obtain ⟨o', e1⟩ := I.base.there b o e hx
    exact free b o' (neC b o e hx) e1 (I.base.free b o e n hx)
  · obtain ⟨o', e1⟩ := I.base.there b o e hx
    exact there b o' (neC b o e hx) e1
  · obtain ⟨m1, e1⟩ := I.base.tbls b ps e
    obtain ⟨m2, e2⟩ := tbls b _ e1
    exact ⟨m1 ++ m2, by rw [e2, Array.append_assoc]⟩
  · obtain ⟨m, hn, hl⟩ := I.loc
    refine ⟨m, ns m hn, fun i x v e1 e2 e3 => ?_⟩
    obtain ⟨u, r, l⟩ := hl i x v e1 e2 e3
    refine ⟨u, r, ?_⟩
    rcases l with l | ⟨k, c, e, z⟩
    · exact .inl l
    · exact .inr ⟨k, c, e, cellK x c e _ z⟩
  · obtain ⟨v, z⟩ := I.cell x c e
    exact ⟨v, cellK x c e v z⟩
  · obtain ⟨m, ⟨o, _, _, ho, _⟩, _⟩ := I.loc
    exact free _ o (fun z => (hch _ z).2.1 rfl) ho I.free
  · obtain ⟨v, o, ho, hd⟩ := I.cell x c e
    exact free c o (fun z => (hch c z).2.2.1 x c e rfl) ho (I.freeC x c e)
  · obtain ⟨e, n, ne, nf, d⟩ := I.pin p hp
    have nch : p.1 ∉ ch := fun z => (hch p.1 z).2.2.2 p hp rfl
    exact ⟨keep p.1 p.2 ne nf nch e n, free p.1 p.2 nch e n, ne, nf, d⟩
/-- .. where the frame's own object is kept too -/
theorem Inv.un {t' : Nat} (I : Inv X pins σ H s) (u : Un X.fs [] H H' s.heap h') (hok : HOk X.prog X.w H' h') : Inv X pins σ H' { s with heap := h', toks := t' } := by
  obtain ⟨m, ⟨o, es, ep, ho, r⟩, _⟩ := id I.loc
  obtain ⟨sl, hL⟩ := u.any ho I.free (by simp)
  exact I.step (g' := s.gens) (d' := s.drawn) (ch := []) (fun _ z => nomatch z) (fun b o _ hb _ e n => u.keep b o e n hb (by simp)) (fun b o _ hb _ e n => u.slot b o e n hb (by simp)) (fun b o _ e n => u.free b o e n (by simp)) (fun b o _ e => u.there b o e (by simp)) u.tups u.frzs u.tbls (fun m' hm => by
    obtain ⟨o', es', ep', ho', r'⟩ := hm
    rw [ho] at ho'; cases ho'
    exact ⟨_, es', ep', hL, r'⟩) hok I.bare
/-- behind a call (or a comprehension's block): the slots of this frame may have changed too, the records at ch may have turned -/
theorem Inv.call {g' : Array GenState} {t' : Nat} {d' : Drawn} {ch : List Addr} (I : Inv X pins σ H s) (u : Un (frs X.stack) ch H H' s.heap h') (hok : HOk X.prog X.w H' h') (hg : AllBare g')
    (hch : ∀ b ∈ ch, (b ∈ X.ex ∨ X.s₀.heap.objs.size ≤ b) ∧ b ≠ X.env.locals ∧ (∀ x c, X.env.cells.lookup x = some c → c ≠ b) ∧ ∀ p ∈ X.pn ++ pins, p.1 ≠ b) :
    Inv X pins σ H' { s with heap := h', gens := g', drawn := d', toks := t' } := by
  obtain ⟨m, ⟨o, es, ep, ho, r⟩, _⟩ := id I.loc
  obtain ⟨sl, hL⟩ := u.any ho I.free fun z => (hch _ z).2.1 rfl
  exact I.step (ch := ch) hch (fun b o hL hb hc e n => u.keep b o e n (fun z => (List.mem_cons.mp (I.stkSub b z)).elim hL hb) hc) (fun b o _ _ hc e n => u.any e n hc) (fun b o hc e n => u.free b o e n hc) (fun b o hc e => u.there b o e hc) u.tups u.frzs u.tbls (fun m' hm => by
    obtain ⟨o', es', ep', ho', r'⟩ := hm
    rw [ho] at ho'; cases ho'
    exact ⟨_, es', ep', hL, r'⟩) hok hg
/-- an untracked record of ours (an iterator) has turned -/
theorem Inv.turned {t' : Nat} {it : Addr} (I : Inv X pins σ H s) (k : ∀ b o, b ≠ it → s.heap.get? b = some o → h'.get? b = some o) (hn : H it = none) (hL : it ≠ X.env.locals)
    (h1 : it ∈ X.ex ∨ X.s₀.heap.objs.size ≤ it) (h2 : ∀ x c, X.env.cells.lookup x = some c → c ≠ it) (h3 : ∀ p ∈ X.pn ++ pins, p.1 ≠ it) : Inv X pins σ H { s with heap := h', toks := t' } := by
  have nit : ∀ b u, H b = some u → b ≠ it := fun b u e z => by rw [z, hn] at e; cases e
  refine I.step (g' := s.gens) (d' := s.drawn) (ch := [it]) (fun b hb => ?_) (fun b o _ _ hc e _ => k b o (fun z => hc (by simp [z])) e) (fun b o _ _ hc e _ => ⟨o.slots, k b o (fun z => hc (by simp [z])) e⟩) (fun _ _ _ _ n => n)
    (fun b o hc e => ⟨o, k b o (fun z => hc (by simp [z])) e⟩) (fun _ _ e => e) (fun _ _ _ e => e) (fun b ps e => ⟨#[], by rw [e]; simp⟩) (fun m hm => ?_) (fun b u e => ?_) I.bare
  · have e : b = it := by simpa using hb
    subst e
    exact ⟨h1, hL, h2, h3⟩
  · obtain ⟨o, es, ep, ho, r⟩ := hm
    exact ⟨o, es, ep, k _ o (Ne.symm hL) ho, r⟩
  · refine (I.hok b u e).stay (fun c v hc q => k c v ?_ q) (fun _ q => q) fun _ _ q => q
    rcases hc with z | z
    · rw [z]; exact nit b u e
    · exact nit c _ z
theorem Inv.tok (I : Inv X pins σ H s) (t : Nat) : Inv X pins σ H { s with toks := t } := I.un (h' := s.heap) (t' := t) Un.refl I.hok
/-- all objects kept -/
theorem Inv.kept {t' : Nat} (I : Inv X pins σ H s) (k : ∀ b u, s.heap.get? b = some u → h'.get? b = some u) : Inv X pins σ H { s with heap := h', toks := t' } := I.un (Un.kept k) (I.hok.kept k)
/-- a new object laid and tracked -/
theorem Inv.laid {a : Addr} {o : HO} {t' : Nat} (I : Inv X pins σ H s) (k : ∀ b u, s.heap.get? b = some u → h'.get? b = some u) (hp : s.heap.objs.size ≤ a) (new : ObjOk X.prog X.w (upd H a o) h' a o) :
    Inv X pins σ (upd H a o) { s with heap := h', toks := t' } := I.un (Un.laid k hp (I.hok.fresh hp)) (I.hok.laid k hp new)
/-- an object written -/
theorem Inv.write {x e : Addr} {o : HO} {t' : Nat} (I : Inv X pins σ H s) (mu : Mut (H x)) (he : e = x ∨ H e = some (.own x)) (k : ∀ b u, b ≠ e → s.heap.get? b = some u → h'.get? b = some u) (heo : ∃ u, h'.get? e = some u)
    (new : ObjOk X.prog X.w (upd H x o) h' x o) : Inv X pins σ (upd H x o) { s with heap := h', toks := t' } := I.un (Un.write mu he k heo) (I.hok.write mu he k heo new)
theorem Inv.pins_of {pins' : List (Addr × Obj)} (I : Inv X pins σ H s) (h : ∀ p ∈ pins', s.heap.get? p.1 = some p.2 ∧ H p.1 = none ∧ p.1 ≠ X.env.locals ∧ p.1 ∉ X.fs ∧ ∀ v, p.2.data ≠ .cell v) : Inv X pins' σ H s :=
  ⟨I.ok, I.os, I.bare, I.base, I.loc, I.cell, I.free, I.freeC, fun p hp => (List.mem_append.mp hp).elim (fun z => I.pin p (List.mem_append_left _ z)) (h p), I.hok, I.len⟩

theorem nodup_ix {N : List Str} (hN : N.Nodup) {i j : Nat} {x : Str} (a : N[i]? = some x) (b : N[j]? = some x) : i = j := by
  obtain ⟨h1, e1⟩ := List.getElem?_eq_some_iff.mp a
  obtain ⟨h2, e2⟩ := List.getElem?_eq_some_iff.mp b
  exact (List.getElem_inj hN).mp (e1.trans e2.symm)

/-- a name is stored; what changed -/
theorem store_ok2 {M : Model} {A : Around} {E : Value → Shared → Prop} {i : Nat} {x : Str} {v : V} {u : Value} {Q : Unit → Shared → Prop} (I : Inv X pins σ H s) (hN : X.N.Nodup) (hi : X.N[i]? = some x) (hx : Loc X.env.scope x) (r : RelV v u)
    (h : ∀ s', Inv X pins (σ.set i (some v)) H s' → (∃ a, Heap.SameBut a s.heap s'.heap ∧ (a = X.env.locals ∨ X.env.cells.lookup x = some a)) → Q () s') (hf : X.fn x = true ∨ X.env.scope.names.lookup x = some .local := by first | exact .inl rfl | exact .inr rfl | assumption) : wpAny M A (storeName X.env x u) Q E s := by
  obtain ⟨m, hn, hl⟩ := id I.loc
  have hcls : (X.env.scope.kind == .class || (X.env.scope.kind == .module && X.env.locals != X.env.globals)) = false := by rw [I.ok.kind]; rfl
  have hiσ : i < σ.length := by rw [I.len]; exact (List.getElem?_eq_some_iff.mp hi).1
  have cne := I.cne
  have tracked : ∀ {a : Addr} {h' : Heap}, (∃ o, s.heap.get? a = some o ∧ H a = none) → Heap.SameBut a s.heap h' → HOk X.prog X.w H h' := fun {a h'} ha hs b ob e => by
    obtain ⟨_, _, hfree⟩ := ha
    refine (I.hok b ob e).stay (fun c w' hc q => (hs.2 c ?_).trans q) (fun _ q => q) fun _ _ q => q
    rintro rfl
    rcases hc with rfl | hc
    · rw [hfree] at e; cases e
    · rw [hfree] at hc; cases hc
  rcases hx with hk | hk
  · refine wpAny_storeName_local hk hn (fun h' hn' hs => ?_) hcls
    obtain ⟨oL, _, _, hoL, _⟩ := id hn
    refine h _ ⟨I.ok, I.os, I.bare, ⟨fun b o e n hb hx => ?_, fun b o e n hb hx => ?_, I.base.free, fun b o e hx => ?_, I.base.tups, I.base.frzs, I.base.tbls⟩, ⟨_, hn', fun j y v' e1 e2 e3 => ?_⟩, fun y c e => ?_, I.free, I.freeC, fun p hp => ?_, tracked ⟨oL, hoL, I.free⟩ hs, by simpa using I.len⟩ ⟨_, hs, .inl rfl⟩
    · exact (hs.2 b (Nat.ne_of_lt (Nat.lt_of_lt_of_le (Heap.lt_size e) I.ok.above))).trans (I.base.keep b o e n hb hx)
    · obtain ⟨sl, e1⟩ := I.base.slot b o e n hb hx
      exact ⟨sl, (hs.2 b (Nat.ne_of_lt (Nat.lt_of_lt_of_le (Heap.lt_size e) I.ok.above))).trans e1⟩
    · obtain ⟨o', e1⟩ := I.base.there b o e hx
      exact ⟨o', (hs.2 b (Nat.ne_of_lt (Nat.lt_of_lt_of_le (Heap.lt_size e) I.ok.above))).trans e1⟩
    · by_cases hj : j = i
      · subst hj
        rw [hi] at e1; cases e1
        rw [List.getElem?_set_self hiσ] at e2
        cases e2
        exact ⟨u, r, .inl ⟨hk, by simp⟩⟩
      · rw [List.getElem?_set_ne (Ne.symm hj)] at e2
        obtain ⟨u', r', q⟩ := hl j y v' e1 e2 e3
        refine ⟨u', r', ?_⟩
        rcases q with ⟨k, e⟩ | ⟨k, c, e, z⟩
        · refine .inl ⟨k, ?_⟩
          have : y ≠ x := fun e => hj (nodup_ix hN e1 (e ▸ hi))
          simp [this, e]
        · exact .inr ⟨k, c, e, z.sameBut hs (cne y c e)⟩
    · obtain ⟨w', z⟩ := I.cell y c e
      exact ⟨w', z.sameBut hs (cne y c e)⟩
    · obtain ⟨e, n, ne, nf, d⟩ := I.pin p hp
      exact ⟨(hs.2 p.1 ne).trans e, n, ne, nf, d⟩
  · have hfn : X.fn x = true := by
      rcases hf with z | z
      · exact z
      · rw [z] at hk; cases hk
    obtain ⟨c, hc⟩ := I.ok.has x (.inl hk)
    obtain ⟨w', z⟩ := I.cell x c hc
    refine wpAny_storeName_cell I.ok.kind hk hc z (fun h' hc' hs => ?_)
    obtain ⟨oc, hoc, hocd⟩ := id z
    refine h { s with heap := h' } ⟨I.ok, I.os, I.bare, ⟨fun b o e n hb hx => ?_, fun b o e n hb hx => ?_, I.base.free, fun b o e hx => ?_, I.base.tups, I.base.frzs, I.base.tbls⟩, ⟨m, hn.sameBut hs (Ne.symm (cne x c hc)), fun j y v' e1 e2 e3 => ?_⟩, fun y c' e => ?_, I.free, I.freeC, fun p hp => ?_, tracked ⟨oc, hoc, I.freeC x c hc⟩ hs, by simpa using I.len⟩ ⟨c, hs, .inr hc⟩
    · exact (hs.2 b (Nat.ne_of_lt (Nat.lt_of_lt_of_le (Heap.lt_size e) (I.ok.cab x c hfn hc)))).trans (I.base.keep b o e n hb hx)
    · obtain ⟨sl, e1⟩ := I.base.slot b o e n hb hx
      exact ⟨sl, (hs.2 b (Nat.ne_of_lt (Nat.lt_of_lt_of_le (Heap.lt_size e) (I.ok.cab x c hfn hc)))).trans e1⟩
    · obtain ⟨o', e1⟩ := I.base.there b o e hx
      exact ⟨o', (hs.2 b (Nat.ne_of_lt (Nat.lt_of_lt_of_le (Heap.lt_size e) (I.ok.cab x c hfn hc)))).trans e1⟩
    · by_cases hj : j = i
      · subst hj
        rw [hi] at e1; cases e1
        rw [List.getElem?_set_self hiσ] at e2
        cases e2
        exact ⟨u, r, .inr ⟨.inl hk, c, hc, hc'⟩⟩
      · rw [List.getElem?_set_ne (Ne.symm hj)] at e2
        obtain ⟨u', r', q⟩ := hl j y v' e1 e2 e3
        refine ⟨u', r', ?_⟩
        rcases q with q | ⟨k, c', e, z'⟩
        · exact .inl q
        · refine .inr ⟨k, c', e, z'.sameBut hs ?_⟩
          rintro rfl
          exact hj (nodup_ix hN e1 (I.ok.inj _ _ _ e hc ▸ hi))
    · by_cases hcc : c' = c
      · subst hcc; exact ⟨_, hc'⟩
      · obtain ⟨w2, z2⟩ := I.cell y c' e
        exact ⟨w2, z2.sameBut hs hcc⟩
    · obtain ⟨e, n, ne, nf, d⟩ := I.pin p hp
      refine ⟨(hs.2 p.1 ?_).trans e, n, ne, nf, d⟩
      intro q
      rw [q, hoc] at e
      have q' : oc = p.2 := Option.some.inj e
      exact d w' (by rw [← q']; exact hocd)
theorem store_ok {M : Model} {A : Around} {E : Value → Shared → Prop} {i : Nat} {x : Str} {v : V} {u : Value} {Q : Unit → Shared → Prop} (I : Inv X pins σ H s) (hN : X.N.Nodup) (hi : X.N[i]? = some x) (hx : Loc X.env.scope x) (r : RelV v u)
    (h : ∀ s', Inv X pins (σ.set i (some v)) H s' → Q () s') (hf : X.fn x = true ∨ X.env.scope.names.lookup x = some .local := by first | exact .inl rfl | exact .inr rfl | assumption) : wpAny M A (storeName X.env x u) Q E s :=
  store_ok2 I hN hi hx r (fun s' I' _ => h s' I') hf
end

/-! ### the judgements -/
/-- an exception: its class, its own dict's address (where it has one), the abstract heap behind it -/
noncomputable abbrev XK := Value → Option Addr → Hp → Prop
noncomputable abbrev St := List (Option V)
noncomputable abbrev VK := V → Hp → Prop
/-- an expression's reading; a test's; an argument list's -/
noncomputable abbrev TE := St → Hp → VK → Prop
noncomputable abbrev TT := St → Hp → (Bool → Hp → Prop) → Prop
noncomputable abbrev TA := St → Hp → (List V → Hp → Prop) → Prop
/-- what is wanted behind a statement -/
structure Ends where
  nx : St → Hp → Prop
  rt : VK
  bk : St → Hp → Prop := fun _ _ => False
  ct : St → Hp → Prop := fun _ _ => False
noncomputable abbrev TS := Ends → St → Hp → Prop

noncomputable def EP (X : Cx) (pins : List (Addr × Obj)) (σ : St) (Q : VK) (u : Value) (s' : Shared) : Prop := ∃ v H', Inv X pins σ H' s' ∧ RelV v u ∧ Q v H'
noncomputable def TP (X : Cx) (pins : List (Addr × Obj)) (σ : St) (Q : Bool → Hp → Prop) (b : Bool) (s' : Shared) : Prop := ∃ H', Inv X pins σ H' s' ∧ Q b H'
noncomputable def AP (X : Cx) (pins : List (Addr × Obj)) (σ : St) (Q : List V → Hp → Prop) (us : List Value) (s' : Shared) : Prop := ∃ vs H', Inv X pins σ H' s' ∧ Vals vs us ∧ Q vs H'
noncomputable def SP (X : Cx) (pins : List (Addr × Obj)) (D : Ends) (f : Flow) (s' : Shared) : Prop :=
  match f with
  | .next => ∃ σ' H', Inv X pins σ' H' s' ∧ D.nx σ' H'
  | .brk => ∃ σ' H', Inv X pins σ' H' s' ∧ D.bk σ' H'
  | .cont => ∃ σ' H', Inv X pins σ' H' s' ∧ D.ct σ' H'
  | .ret u => ∃ v σ' H', Inv X pins σ' H' s' ∧ RelV v u ∧ D.rt v H'

noncomputable def PE (X : Cx) (e : Expr) (t : TE) : Prop :=
  ∀ (pins : List (Addr × Obj)) (s : Shared) (σ : St) (H : Hp) (Q : VK), Inv X pins σ H s → t σ H Q → wpAny (model X.prog X.w) X.A (eval e X.env) (EP X pins σ Q) X.xe s
noncomputable def PT (X : Cx) (e : Expr) (t : TT) : Prop :=
  ∀ (pins : List (Addr × Obj)) (s : Shared) (σ : St) (H : Hp) (Q : Bool → Hp → Prop), Inv X pins σ H s → t σ H Q → wpAny (model X.prog X.w) X.A (isTrue e X.env (eval e X.env)) (TP X pins σ Q) X.xe s
/-- a test whatever its 'whole' is (and, or) -/
noncomputable def PW (X : Cx) (e : Expr) (t : TT) : Prop :=
  ∀ (whole : Sem Value) (pins : List (Addr × Obj)) (s : Shared) (σ : St) (H : Hp) (Q : Bool → Hp → Prop), Inv X pins σ H s → t σ H Q → wpAny (model X.prog X.w) X.A (isTrue e X.env whole) (TP X pins σ Q) X.xe s
theorem PW.pt {X : Cx} {e : Expr} {t : TT} (h : PW X e t) : PT X e t := h _
/-- an argument list (no star), from the left -/
noncomputable def PA (X : Cx) (es : List Expr) (t : TA) : Prop :=
  ∀ (pos : Pos) (pins : List (Addr × Obj)) (s : Shared) (σ : St) (H : Hp) (Q : List V → Hp → Prop), Inv X pins σ H s → t σ H Q → wpAny (model X.prog X.w) X.A (spliced (backTo pos (starEach es X.env))) (AP X pins σ Q) X.xe s
noncomputable def PS (X : Cx) (st : Stmt) (t : TS) : Prop :=
  ∀ (pins : List (Addr × Obj)) (s : Shared) (σ : St) (H : Hp) (D : Ends), Inv X pins σ H s → t D σ H → wpAny (model X.prog X.w) X.A (exec st X.env) (SP X pins D) X.xe s
noncomputable def PSs (X : Cx) (st : List Stmt) (t : TS) : Prop :=
  ∀ (pins : List (Addr × Obj)) (s : Shared) (σ : St) (H : Hp) (D : Ends), Inv X pins σ H s → t D σ H → wpAny (model X.prog X.w) X.A (execs st X.env) (SP X pins D) X.xe s
/-- weaken the end -/
theorem thn {α : Type} {t : Sem α} {Q Q' : α → Shared → Prop} {M : Model} {A : Around} {E : Value → Shared → Prop} {s : Shared} (h : wpAny M A t Q E s) (hQ : ∀ a s, Q a s → Q' a s) : wpAny M A t Q' E s := wpAny_mono h hQ fun _ _ x => x
end L2

namespace L2
open PySem PySem.Spec PyProof.Rows
section
variable {X : Cx}

/-- two expressions in a row -/
theorem bin {a b : Expr} {ta tb : TE} (ha : PE X a ta) (hb : PE X b tb) {pins : List (Addr × Obj)} {s : Shared} {σ : St} {H : Hp} {R : V → V → Hp → Prop} (I : Inv X pins σ H s) (h : ta σ H fun x H1 => tb σ H1 fun y H2 => R x y H2)
    {α : Type} {Q : α → Shared → Prop} {f : Value → Value → Sem α}
    (hf : ∀ v u s2 x y H2, Inv X pins σ H2 s2 → RelV x v → RelV y u → R x y H2 → wpAny (model X.prog X.w) X.A (f v u) Q X.xe s2) :
    wpAny (model X.prog X.w) X.A (eval a X.env) (fun v s₁ => wpAny (model X.prog X.w) X.A (eval b X.env) (fun u s₂ => wpAny (model X.prog X.w) X.A (f v u) Q X.xe s₂) X.xe s₁) X.xe s := by
  refine thn (ha pins s σ H _ I h) fun v s1 ⟨x, H1, I1, r1, q1⟩ => ?_
  refine thn (hb pins s1 σ H1 _ I1 q1) fun u s2 ⟨y, H2, I2, r2, q2⟩ => ?_
  exact hf v u s2 x y H2 I2 r1 r2 q2

/-! ### names and constants -/
noncomputable def tVar (i : Nat) : TE := fun σ H Q => ∃ v, σ[i]? = some (some v) ∧ Q v H
noncomputable def tC (v : V) : TE := fun _ H Q => Q v H
theorem pe_var {i : Nat} {x : Str} {pos : Pos} (hN : X.N[i]? = some x) (hv : Vis X.env.scope x) (hd : (x == ("__debug__" : Str)) = false := by decide) (hcd : (x == ("__classdict__" : Str)) = false := by decide) : PE X (.Name x pos) (tVar i) := by
  intro pins s σ H Q I h
  obtain ⟨v, e, h⟩ := h
  obtain ⟨m, hn, hl⟩ := I.loc
  obtain ⟨u, r, l⟩ := hl i x v hN e hv
  have fin : EP X pins σ Q u s := ⟨v, H, I, r, h⟩
  rcases l with ⟨hk, hm⟩ | ⟨hk, c, hc, hcell⟩
  · exact wpAny_Name (wpAny_loadName_local I.ok.kind hk hn hm fin) hd
  · rcases hk with hk | hk
    · exact wpAny_Name (wpAny_loadName_cell I.ok.kind hk hc hcell fin) hd
    · exact wpAny_Name (wpAny_loadName_free I.ok.kind hk hc hcell fin hcd) hd
theorem pe_int {i j pos} : PE X (.Constant (.int i) j pos) (tC (.int i)) := fun _ _ _ H _ I h => wpAny_Constant_int ⟨.int i, H, I.tok _, ⟨_, rfl⟩, h⟩
theorem pe_bl {b j pos} : PE X (.Constant (.bool b) j pos) (tC (.bl b)) := fun _ _ _ H _ I h => Constant_bool ⟨.bl b, H, I, rfl, h⟩
theorem pe_non {j pos} : PE X (.Constant .none j pos) (tC .non) := fun _ _ _ H _ I h => Constant_none ⟨.non, H, I, rfl, h⟩
theorem pe_str {x j pos} : PE X (.Constant (.str x) j pos) (tC (.str x)) := fun _ _ _ H _ I h => Calls.Constant_str ⟨.str x, H, I.tok _, ⟨_, rfl⟩, h⟩

/-- a global name of the def -/
noncomputable def Gl (X : Cx) (x : Str) : Prop := X.env.kindOf x = some .globalImplicit
theorem ld_glob {E : Value → Shared → Prop} {pins : List (Addr × Obj)} {s : Shared} {σ : St} {H : Hp} {x : Str} {u : Value} {pos : Pos} {Q : Value → Shared → Prop} (I : Inv X pins σ H s) (hg : Gl X x) (hm : X.mg x = some u) (h : Q u s)
    (hd : (x == ("__debug__" : Str)) = false := by decide) : wpAny (model X.prog X.w) X.A (eval (.Name x pos) X.env) Q E s :=
  Calls.Name_function_global I.ok.kind hg (Calls.loadGlobal_global (by rw [I.ok.glob]; exact I.mod.glob.keeps I.bk) hm h) hd
theorem ld_blt {E : Value → Shared → Prop} {pins : List (Addr × Obj)} {s : Shared} {σ : St} {H : Hp} {x : Str} {u : Value} {pos : Pos} {Q : Value → Shared → Prop} (I : Inv X pins σ H s) (hg : Gl X x) (hm : X.mg x = none) (hv : bootBuiltins x = some u) (h : Q u s)
    (hn : x ≠ "__name__" := by decide) (hd : (x == ("__debug__" : Str)) = false := by decide) : wpAny (model X.prog X.w) X.A (eval (.Name x pos) X.env) Q E s := by
  obtain ⟨mb, h1, h2⟩ := I.mod.blt
  exact Calls.Name_function_global I.ok.kind hg (Calls.loadGlobal_builtin (by rw [I.ok.glob]; exact I.mod.glob.keeps I.bk) hm (by rw [I.ok.blt]; exact h1.keeps I.bk) ((h2 x hn).trans hv) h) hd
/-- a module's constant, a class, a function, as a value -/
theorem pe_glob {x : Str} {v : V} {u : Value} {pos : Pos} (hg : Gl X x) (hm : X.mg x = some u) (r : RelV v u) (hd : (x == ("__debug__" : Str)) = false := by decide) : PE X (.Name x pos) (tC v) :=
  fun _ _ _ H _ I h => ld_glob I hg hm ⟨v, H, I, r, h⟩ hd
theorem pe_bltn {x : Str} {v : V} {u : Value} {pos : Pos} (hg : Gl X x) (hm : X.mg x = none) (hv : bootBuiltins x = some u) (r : RelV v u) (hn : x ≠ "__name__" := by decide) (hd : (x == ("__debug__" : Str)) = false := by decide) : PE X (.Name x pos) (tC v) :=
  fun _ _ _ H _ I h => ld_blt I hg hm hv ⟨v, H, I, r, h⟩ hn hd

/-! ### arithmetic -/
variable {a b : Expr} {ta tb : TE} {pos : Pos}
/-! ### comparisons -/
/-! ### and, or, not -/
variable {tA tB' : TT} {rest : List Expr}
noncomputable def tAnd (t u : TT) : TT := fun σ H Q => t σ H fun c H1 => if c = true then u σ H1 Q else Q false H1
noncomputable def tOr (t u : TT) : TT := fun σ H Q => t σ H fun c H1 => if c = true then Q true H1 else u σ H1 Q
noncomputable def tNot (t : TT) : TT := fun σ H Q => t σ H fun c H1 => Q (!c) H1
theorem pw_and1 (ha : PT X a tA) : PW X (.BoolOp .And [a] pos) tA := by
  intro wh pins s σ H Q I h
  refine isTrue_and (thn (ha pins s σ H Q I h) fun c s1 e => ?_)
  cases c with
  | true => exact isTrue_and_nil e
  | false => exact e
theorem pw_or1 (ha : PT X a tA) : PW X (.BoolOp .Or [a] pos) tA := by
  intro wh pins s σ H Q I h
  refine isTrue_or (thn (ha pins s σ H Q I h) fun c s1 e => ?_)
  cases c with
  | false => exact isTrue_or_nil e
  | true => exact e
theorem pw_and (ha : PT X a tA) (hb : PW X (.BoolOp .And (b :: rest) pos) tB') : PW X (.BoolOp .And (a :: b :: rest) pos) (tAnd tA tB') := by
  intro wh pins s σ H Q I h
  refine isTrue_and (thn (ha pins s σ H _ I h) fun c s1 ⟨H1, I1, q1⟩ => ?_)
  cases c with
  | true => exact hb wh pins s1 σ H1 Q I1 q1
  | false => exact ⟨H1, I1, q1⟩
theorem pw_or (ha : PT X a tA) (hb : PW X (.BoolOp .Or (b :: rest) pos) tB') : PW X (.BoolOp .Or (a :: b :: rest) pos) (tOr tA tB') := by
  intro wh pins s σ H Q I h
  refine isTrue_or (thn (ha pins s σ H _ I h) fun c s1 ⟨H1, I1, q1⟩ => ?_)
  cases c with
  | true => exact ⟨H1, I1, q1⟩
  | false => exact hb wh pins s1 σ H1 Q I1 q1
theorem pt_not (ha : PT X a tA) : PT X (.UnaryOp .Not a pos) (tNot tA) := by
  intro pins s σ H Q I h
  exact isTrue_not (ha pins s σ H (fun c H1 => Q (!c) H1) I h)
theorem pe_one {op} {t : TE} (h : PE X a t) : PE X (.BoolOp op [a] pos) t := fun pins s σ H Q I hw => BoolOp_one (h pins s σ H Q I hw)
/-- a if t else b -/
noncomputable def tIf (t : TT) (ta tb : TE) : TE := fun σ H Q => t σ H fun c H1 => if c = true then ta σ H1 Q else tb σ H1 Q
theorem pe_ifExp {c : Expr} (hc : PT X c tA) (ha : PE X a ta) (hb : PE X b tb) : PE X (.IfExp c a b pos) (tIf tA ta tb) := by
  intro pins s σ H Q I h
  refine wpAny_IfExp (thn (hc pins s σ H _ I h) fun d s1 ⟨H1, I1, q1⟩ => ?_)
  cases d with
  | true => exact ha pins s1 σ H1 Q I1 q1
  | false => exact hb pins s1 σ H1 Q I1 q1
end
end L2

namespace L2
open PySem PySem.Spec PyProof.Rows

/-! ### a list, a tuple that is read: tracked, frozen, or an object of the module -/
noncomputable def SqL (K : PySem.W.Frag) (H : Hp) (a : Addr) (xs : List V) : Prop :=
  Rd H a (.lst xs) ∨
    ∃ (o : Obj) (its : Array Value) (n : Nat), K.lookup a = some o ∧ o.cls = .type "list" ∧ o.dict = none ∧ o.data = .seq its n ∧ its.size ≤ sizeLine ∧ Vals xs its.toList
noncomputable def SqT (K : PySem.W.Frag) (H : Hp) (a : Addr) (xs : List V) : Prop :=
  Rd H a (.tup xs) ∨
    ∃ (o : Obj) (its : Array Value) (n : Nat), K.lookup a = some o ∧ o.cls = .type "tuple" ∧ o.data = .seq its n ∧ its.size ≤ sizeLine ∧ Vals xs its.toList
noncomputable def absV : Value → Option V
  | .none => some .non
  | .bool b => some (.bl b)
  | .int i _ => some (.int i)
  | .str x _ => some (.str x)
  | .bytes b _ => some (.byt b)
  | .float b _ => some (.flt b)
  | .ref a => some (.ref a)
  | .type n => some (.ty n)
  | _ => none
theorem RelV.abs {x : V} {u : Value} (r : RelV x u) : absV u = some x := by
  cases x with
  | non => cases r; rfl
  | bl _ => cases r; rfl
  | int _ => obtain ⟨t, rfl⟩ := r; rfl
  | str _ => obtain ⟨t, rfl⟩ := r; rfl
  | byt _ => obtain ⟨t, rfl⟩ := r; rfl
  | flt _ => obtain ⟨t, rfl⟩ := r; rfl
  | ref _ => cases r; rfl
  | ty _ => cases r; rfl
theorem RelV.inj {x y : V} {u : Value} (r : RelV x u) (q : RelV y u) : x = y := Option.some.inj (r.abs.symm.trans q.abs)
theorem Vals.inj : ∀ {xs ys : List V} {us : List Value}, Vals xs us → Vals ys us → xs = ys
  | _, _, _, .nil, .nil => rfl
  | _, _, _, .cons r t, .cons r' t' => by rw [r.inj r', Vals.inj t t']
section
variable {X : Cx} {pins : List (Addr × Obj)} {σ : St} {H : Hp} {s : Shared} {a : Addr} {xs ys : List V}
theorem SqL.of {K : PySem.W.Frag} (h : H a = some (.lst xs)) : SqL K H a xs := .inl (.inl h)
theorem SqT.of {K : PySem.W.Frag} (h : H a = some (.tup xs)) : SqT K H a xs := .inl (.inl h)
theorem Inv.list (I : Inv X pins σ H s) (h : SqL X.K H a xs) : ∃ its : List Value, Vals xs its ∧ PlainL s.heap a its.toArray ∧ xs.length ≤ sizeLine := by
  rcases h with h | ⟨o, its, n, hk, hc, hd, hs, hz, r⟩
  · obtain ⟨z, its, n, r, e⟩ := h.ok I.hok
    exact ⟨its, r, ⟨_, n, e, rfl, rfl, rfl⟩, z⟩
  · refine ⟨its.toList, r, ⟨o, n, I.kIn a o hk, hc, hd, by simpa using hs⟩, ?_⟩
    have e := r.length
    simp only [Array.length_toList] at e
    omega
theorem Inv.tuple (I : Inv X pins σ H s) (h : SqT X.K H a xs) : ∃ its : List Value, Vals xs its ∧ IsTup s.heap a its.toArray ∧ xs.length ≤ sizeLine := by
  rcases h with h | ⟨o, its, n, hk, hc, hs, hz, r⟩
  · obtain ⟨z, its, r, p⟩ := h.ok I.hok
    exact ⟨its, r, p, z⟩
  · refine ⟨its.toList, r, ⟨o, I.kIn a o hk, hc, n, by simpa using hs⟩, ?_⟩
    have e := r.length
    simp only [Array.length_toList] at e
    omega
theorem Inv.list_inj (I : Inv X pins σ H s) (h : SqL X.K H a xs) (h' : SqL X.K H a ys) : xs = ys := by
  obtain ⟨its, r, ⟨o, n, e, _, _, d⟩, _⟩ := I.list h
  obtain ⟨its', r', ⟨o', n', e', _, _, d'⟩, _⟩ := I.list h'
  rw [e] at e'; cases e'
  rw [d] at d'
  injection d' with d1 _
  have : its = its' := by simpa using congrArg Array.toList d1
  subst this
  exact r.inj r'
theorem Inv.tuple_inj (I : Inv X pins σ H s) (h : SqT X.K H a xs) (h' : SqT X.K H a ys) : xs = ys := by
  obtain ⟨its, r, ⟨o, e, _, n, d⟩, _⟩ := I.tuple h
  obtain ⟨its', r', ⟨o', e', _, n', d'⟩, _⟩ := I.tuple h'
  rw [e] at e'; cases e'
  rw [d] at d'
  injection d' with d1 _
  have : its = its' := by simpa using congrArg Array.toList d1
  subst this
  exact r.inj r'
end

/-! ### another wish about exceptions -/
noncomputable abbrev Cx.wish (X : Cx) (E : Value → Shared → Prop) : Cx := { X with xe := E }
/-- no exception leaves -/
noncomputable abbrev Cx.nox (X : Cx) : Cx := X.wish fun _ _ => False
theorem Cx.Ok.wish {X : Cx} (ok : X.Ok) (E : Value → Shared → Prop) : (X.wish E).Ok :=
  ⟨ok.mod, ok.kind, ok.glob, ok.blt, ok.above, ok.inj, ok.has, ok.cab, ok.hd, ok.frames, ok.stk, ok.exf, ok.bs, ok.bsz, ok.noex, ok.exfs, ok.funs, ok.frf⟩
theorem Cx.Ok.unwish {X : Cx} {E : Value → Shared → Prop} (ok : (X.wish E).Ok) : X.Ok :=
  ⟨ok.mod, ok.kind, ok.glob, ok.blt, ok.above, ok.inj, ok.has, ok.cab, ok.hd, ok.frames, ok.stk, ok.exf, ok.bs, ok.bsz, ok.noex, ok.exfs, ok.funs, ok.frf⟩
section
variable {X : Cx} {pins : List (Addr × Obj)} {σ : St} {H : Hp} {s : Shared} {E : Value → Shared → Prop}
theorem Inv.wish (I : Inv X pins σ H s) (E : Value → Shared → Prop) : Inv (X.wish E) pins σ H s := ⟨I.ok.wish E, I.os, I.bare, I.base, I.loc, I.cell, I.free, I.freeC, I.pin, I.hok, I.len⟩
theorem Inv.unwish (I : Inv (X.wish E) pins σ H s) : Inv X pins σ H s := ⟨I.ok.unwish, I.os, I.bare, I.base, I.loc, I.cell, I.free, I.freeC, I.pin, I.hok, I.len⟩
theorem SP.unwish {D : Ends} {f : Flow} {s' : Shared} (h : SP (X.wish E) pins D f s') : SP X pins D f s' := by
  cases f with
  | next => obtain ⟨σ', H', I, q⟩ := h; exact ⟨σ', H', I.unwish, q⟩
  | brk => obtain ⟨σ', H', I, q⟩ := h; exact ⟨σ', H', I.unwish, q⟩
  | cont => obtain ⟨σ', H', I, q⟩ := h; exact ⟨σ', H', I.unwish, q⟩
  | ret u => obtain ⟨v, σ', H', I, r, q⟩ := h; exact ⟨v, σ', H', I.unwish, r, q⟩
theorem PSs.nox {st : List Stmt} {t : TS} (h : PSs X.nox st t) : PSs X st t := fun pins s σ H D I hw =>
  wpAny_mono (h pins s σ H D (I.wish _) hw) (fun _ _ q => q.unwish) fun _ _ z => False.elim z
end

/-! ### blocks and small statements -/
section
variable {X : Cx} {st : Stmt} {rest : List Stmt} {t u : TS} {e : Expr} {te : TE} {pos : Pos}
noncomputable def tNext : TS := fun D σ H => D.nx σ H
noncomputable def tSeq (t u : TS) : TS := fun D σ H => t { D with nx := u D } σ H
theorem pss_nil : PSs X [] tNext := fun _ _ σ H _ I h => wpAny_execs_nil ⟨σ, H, I, h⟩
theorem pss_cons (h1 : PS X st t) (h2 : PSs X rest u) : PSs X (st :: rest) (tSeq t u) := by
  intro pins s σ H D I h
  refine wpAny_execs_cons (thn (h1 pins s σ H { D with nx := u D } I h) fun f s1 q => ?_)
  cases f with
  | next =>
    obtain ⟨σ', H', I', q⟩ := q
    exact h2 pins s1 σ' H' D I' q
  | ret v => exact q
  | brk => exact q
  | cont => exact q
theorem pss_one (h1 : PS X st t) : PSs X [st] t := by
  intro pins s σ H D I h
  refine wpAny_execs_cons (thn (h1 pins s σ H D I h) fun f s1 q => ?_)
  cases f with
  | next => exact wpAny_execs_nil q
  | ret v => exact q
  | brk => exact q
  | cont => exact q
/-- in a def's body nothing is shown -/
theorem Inv.quiet {pins : List (Addr × Obj)} {σ : St} {H : Hp} {s : Shared} (I : Inv X pins σ H s) : interactive X.env = false := by simp [interactive, I.ok.kind]
/-- an expression whose value is dropped -/
noncomputable def tDrop (te : TE) : TS := fun D σ H => te σ H fun _ H1 => D.nx σ H1
theorem ps_expr (he : PE X e te) (hs : swapsWith e none pos.line X.env = pure false := by rfl) : PS X (.Expr e pos) (tDrop te) := by
  intro pins s σ H D I h
  exact wpAny_Expr_any (thn (he pins s σ H _ I h) fun v s1 ⟨x, H1, I1, r1, q1⟩ => ⟨σ, H1, I1, q1⟩) I.quiet hs
noncomputable def tRet (te : TE) : TS := fun D σ H => te σ H D.rt
theorem ps_ret (he : PE X e te) : PS X (.Return (some e) pos) (tRet te) := by
  intro pins s σ H D I h
  exact wpAny_Return_some (thn (he pins s σ H _ I h) fun v s1 ⟨x, H1, I1, r1, q1⟩ => ⟨x, σ, H1, I1, r1, q1⟩)
noncomputable def tIfS (c : TT) (t u : TS) : TS := fun D σ H => c σ H fun b H1 => if b = true then t D σ H1 else u D σ H1
theorem ps_if {c : Expr} {a b : List Stmt} {tc : TT} (hc : PT X c tc) (ha : PSs X a t) (hb : PSs X b u) : PS X (.If c a b pos) (tIfS tc t u) := by
  intro pins s σ H D I h
  refine wpAny_If (thn (hc pins s σ H _ I h) fun d s1 ⟨H1, I1, q1⟩ => ?_)
  cases d with
  | true => exact ha pins s1 σ H1 D I1 q1
  | false => exact hb pins s1 σ H1 D I1 q1
/-- code that the proof never comes to -/
noncomputable def tNever : TS := fun _ _ _ => False
theorem ps_never : PS X st tNever := fun _ _ _ _ _ _ h => h.elim
end

/-! ### targets -/
noncomputable abbrev TG := V → St → Hp → (St → Hp → Prop) → Prop
noncomputable abbrev TGs := List V → St → Hp → (St → Hp → Prop) → Prop
noncomputable def PG (X : Cx) (target : Expr) (t : TG) : Prop :=
  ∀ (pins : List (Addr × Obj)) (s : Shared) (σ : St) (H : Hp) (v : V) (u : Value) (Q : St → Hp → Prop), Inv X pins σ H s → RelV v u → t v σ H Q →
    wpAny (model X.prog X.w) X.A (assign target X.env u) (fun _ s' => ∃ σ' H', Inv X pins σ' H' s' ∧ Q σ' H') X.xe s
/-- several targets, one after another -/
noncomputable def PGs (X : Cx) (ts : List Expr) (t : TGs) : Prop :=
  ∀ (pins : List (Addr × Obj)) (s : Shared) (σ : St) (H : Hp) (vs : List V) (us : List Value) (Q : St → Hp → Prop), Inv X pins σ H s → Vals vs us → t vs σ H Q →
    wpAny (model X.prog X.w) X.A (assignInOrder ((assignEach ts X.env).map (·.2)) us) (fun _ s' => ∃ σ' H', Inv X pins σ' H' s' ∧ Q σ' H') X.xe s
/-- o[i] = v, by values -/
noncomputable abbrev TSet := V → V → V → Hp → (Hp → Prop) → Prop
noncomputable def PSet (X : Cx) (t : TSet) : Prop :=
  ∀ (pins : List (Addr × Obj)) (s : Shared) (σ : St) (H : Hp) (o i v : V) (ov iv u : Value) (Q : Hp → Prop), Inv X pins σ H s → RelV o ov → RelV i iv → RelV v u → t o i v H Q →
    wpAny (model X.prog X.w) X.A (setItem ov iv u) (fun _ s' => ∃ H', Inv X pins σ H' s' ∧ Q H') X.xe s
section
variable {X : Cx} {pos : Pos}
noncomputable def gName (i : Nat) : TG := fun v σ H Q => Q (σ.set i (some v)) H
theorem pg_name {i : Nat} {x : Str} (hN : X.N.Nodup) (hi : X.N[i]? = some x) (hx : Loc X.env.scope x) (hf : X.fn x = true ∨ X.env.scope.names.lookup x = some .local := by first | exact .inl rfl | exact .inr rfl | assumption) : PG X (.Name x pos) (gName i) := by
  intro pins s σ H v u Q I r h
  exact wpAny_assign_Name (store_ok I hN hi hx r (fun s' I' => ⟨_, H, I', h⟩) hf)
noncomputable def gNil : TGs := fun vs σ H Q => vs = [] ∧ Q σ H
noncomputable def gCons (t : TG) (u : TGs) : TGs := fun vs σ H Q => ∃ v r, vs = v :: r ∧ t v σ H fun σ' H' => u r σ' H' Q
theorem pgs_nil : PGs X [] gNil := by
  intro pins s σ H vs us Q I r h
  obtain ⟨e, h⟩ := h
  subst e
  cases r
  exact assignInOrder_nil ⟨σ, H, I, h⟩
theorem pgs_cons {e : Expr} {es : List Expr} {t : TG} {u : TGs} (h1 : PG X e t) (h2 : PGs X es u)
    (hs : (assignEach (e :: es) X.env).map (·.2) = assign e X.env :: (assignEach es X.env).map (·.2) := by rfl) : PGs X (e :: es) (gCons t u) := by
  intro pins s σ H vs us Q I r h
  obtain ⟨v, vr, e1, h⟩ := h
  subst e1
  cases r with
  | cons r rr =>
    rw [hs]
    refine assignInOrder_cons (thn (h1 pins s σ H _ _ _ I r h) fun _ s1 ⟨σ1, H1, I1, q1⟩ => ?_)
    exact h2 pins s1 σ1 H1 _ _ Q I1 rr q1
/-- (a, b, ..) = a tuple of that length -/
noncomputable def gTup (K : PySem.W.Frag) (n : Nat) (t : TGs) : TG := fun v σ H Q => ∃ a xs, v = .ref a ∧ SqT K H a xs ∧ xs.length = n ∧ t xs σ H Q
theorem pg_tup {es : List Expr} {k : Nat} {t : TGs} {n : Nat} (hc : X.calm = true) (h : PGs X es t)
    (hn : (assignEach es X.env).length = n := by rfl) (hst : (assignEach es X.env).findIdx? (·.1) = none := by rfl) : PG X (.Tuple es k pos) (gTup X.K n t) := by
  intro pins s σ H v u Q I r hw
  obtain ⟨a, xs, e1, hq, hl, hw⟩ := hw
  subst e1
  cases r
  obtain ⟨its, rv, ht, hz⟩ := I.tuple hq
  refine assign_Tuple_tuple (I.ok.hd hc) ht (by simp [hn, ← hl, rv.length]) hst fun h' hx => ?_
  have I1 : Inv X pins σ H { s with heap := h' } := I.kept (t' := s.toks) fun b o e => hx b o (Nat.ne_of_lt (Heap.lt_size e)) e
  exact h pins _ σ H xs _ Q I1 (by simpa using rv) hw
/-- o[i] = .. -/
noncomputable def gSub (to ti : TE) (t : TSet) : TG := fun v σ H Q => to σ H fun o H1 => ti σ H1 fun i H2 => t o i v H2 fun H3 => Q σ H3
theorem pg_sub {o i : Expr} {to ti : TE} {t : TSet} (ho : PE X o to) (hi : PE X i ti) (hs : PSet X t)
    (ha : ∀ v, assign (.Subscript o i pos) X.env v = (do
      let ov ← holding [v] (eval o X.env)
      let iv ← holding [v, ov] (eval i X.env)
      standAt pos
      holding [v, ov, iv] (setItem ov iv v)
      release [v, ov, iv] []) := by intro _; rfl) : PG X (.Subscript o i pos) (gSub to ti t) := by
  intro pins s σ H v u Q I r h
  rw [ha]
  refine wpAny_bind (wpAny_holding (thn (ho pins s σ H _ I h) fun ov s1 ⟨x, H1, I1, r1, q1⟩ => ?_))
  refine wpAny_bind (wpAny_holding (thn (hi pins s1 σ H1 _ I1 q1) fun iv s2 ⟨y, H2, I2, r2, q2⟩ => ?_))
  refine wpAny_bind (wpAny_standAt (wpAny_bind (wpAny_holding (thn (hs pins s2 σ H2 x y v ov iv u _ I2 r1 r2 r q2) fun _ s3 ⟨H3, I3, q3⟩ => ?_))))
  exact wpAny_release ⟨σ, H3, I3, q3⟩
/-- target = value -/
noncomputable def tAsg (te : TE) (g : TG) : TS := fun D σ H => te σ H fun x H1 => g x σ H1 D.nx
theorem ps_asg {tg e : Expr} {te : TE} {g : TG} (he : PE X e te) (hg : PG X tg g) (hs : swapsWithSole [tg] e pos.line X.env = pure false := by rfl) (hw : swappedStores [tg] e X.env = pure none := by rfl)
    (h1 : (assignEach [tg] X.env).map (·.2) = [assign tg X.env] := by rfl) : PS X (.Assign [tg] e pos) (tAsg te g) := by
  intro pins s σ H D I h
  refine wpAny_Assign_stores (thn (he pins s σ H _ I h) fun v s1 ⟨x, H1, I1, r1, q1⟩ => ?_) hs hw
  rw [h1]
  exact thn (hg pins s1 σ H1 x v _ I1 r1 q1) fun _ s2 q => q
/-- name = value -/
theorem ps_set {i : Nat} {x : Str} {e : Expr} {te : TE} {pos' : Pos} (hN : X.N.Nodup) (hi : X.N[i]? = some x) (hx : Loc X.env.scope x) (he : PE X e te) (hs : swapsWith e (some (.Name x pos')) pos.line X.env = pure false := by rfl) (hf : X.fn x = true ∨ X.env.scope.names.lookup x = some .local := by first | exact .inl rfl | exact .inr rfl | assumption) :
    PS X (.Assign [.Name x pos'] e pos) (tAsg te (gName i)) := by
  intro pins s σ H D I h
  refine wpAny_Assign_Name (thn (he pins s σ H _ I h) fun v s1 ⟨y, H1, I1, r1, q1⟩ => ?_) hs
  exact store_ok I1 hN hi hx r1 (fun s2 I2 => ⟨_, H1, I2, q1⟩) hf
end

/-! ### while -/
section
variable {X : Cx} {pos : Pos}
end

/-! ### what a loop or a comprehension walks -/
/-- at turn i: it yields x (the heap may grow), or it stops -/
structure It where
  go : Nat → Hp → Prop
  yld : Nat → Hp → V → Hp → Prop
  stop : Nat → Hp → Prop
/-- the iterator's own objects may turn: they are not the frame's, not pinned, younger than the entry (or a comprehension's own) -/
noncomputable def FpOk (X : Cx) (pins : List (Addr × Obj)) (H : Hp) (b : Addr) : Prop :=
  H b = none ∧ b ≠ X.env.locals ∧ b ∉ X.fs ∧ (b ∈ X.ex ∨ X.s₀.heap.objs.size ≤ b) ∧ (∀ x c, X.env.cells.lookup x = some c → c ≠ b) ∧ ∀ p ∈ X.pn ++ pins, p.1 ≠ b
theorem Inv.fpOk {X : Cx} {pins : List (Addr × Obj)} {σ : St} {H H' : Hp} {s : Shared} {b : Addr} (I : Inv X pins σ H s) (hb : s.heap.objs.size ≤ b) (hn : H' b = none) : FpOk X pins H' b := by
  refine ⟨hn, Nat.ne_of_gt (Nat.lt_of_lt_of_le I.lt hb), I.nofs hb, .inr (Nat.le_trans I.sz hb), fun x c e z => ?_, fun p hp z => ?_⟩
  · obtain ⟨v, q⟩ := I.cell x c e
    exact absurd (Nat.lt_of_lt_of_le q.lt (by rw [z]; exact hb)) (Nat.lt_irrefl _)
  · exact absurd (Nat.lt_of_lt_of_le (Heap.lt_size (I.pin p hp).1) (by rw [z]; exact hb)) (Nat.lt_irrefl _)
structure Turn (P : Program) (w : World) (K : PySem.W.Frag) (tg : Expr) (J : It) (fp : List Addr) (it : Addr) (tn : Nat → Heap → Prop) : Prop where
  mem : it ∈ fp
  obj : ∀ i h, tn i h → ∀ b ∈ fp, ∃ o, h.get? b = some o ∧ ∀ v, o.data ≠ .cell v
  keep : ∀ i h h', tn i h → (∀ b ∈ fp, ∀ o, h.get? b = some o → h'.get? b = some o) → tn i h'
  item : ∀ (X : Cx), X.prog = P → X.w = w → X.K = K → X.calm = true → ∀ (i : Nat) (pins : List (Addr × Obj)) (s : Shared) (σ : St) (H : Hp) (E : Value → Shared → Prop), Inv X pins σ H s → (∀ b ∈ fp, FpOk X pins H b) → tn i s.heap → J.go i H →
    wpAny (model P w) X.A (pyNext (.ref it)) (fun r s1 => ∃ u, r = some u ∧
      wpAny (model P w) X.A (letOwnedTupleGo tg (.ref it) u) (fun _ s2 => ∃ x H', Inv X pins σ H' s2 ∧ RelV x u ∧ J.yld i H x H' ∧ tn (i + 1) s2.heap ∧ ∀ b ∈ fp, H' b = none) E s1) E s
  done : ∀ (X : Cx), X.prog = P → X.w = w → X.K = K → X.calm = true → ∀ (i : Nat) (pins : List (Addr × Obj)) (s : Shared) (σ : St) (H : Hp) (E : Value → Shared → Prop), Inv X pins σ H s → (∀ b ∈ fp, FpOk X pins H b) → tn i s.heap → J.stop i H →
    wpAny (model P w) X.A (pyNext (.ref it)) (fun r s1 => r = none ∧ Inv X pins σ H s1) E s
  self : ∀ (A : Around) (i : Nat) (s : Shared) (Q : Value → Shared → Prop) (E : Value → Shared → Prop), tn i s.heap → Q (.ref it) s → wpAny (model P w) A (pyIter (.ref it)) Q E s
noncomputable abbrev TI := St → Hp → (It → Hp → Prop) → Prop
/-- an iterator has come -/
noncomputable def PIE (X : Cx) (pins : List (Addr × Obj)) (σ : St) (tg : Expr) (R : It → Hp → Prop) (itv : Value) (s2 : Shared) : Prop :=
  ∃ (it : Addr) (fp : List Addr) (tn : Nat → Heap → Prop) (J : It) (H' : Hp), itv = .ref it ∧ Inv X pins σ H' s2 ∧ Turn X.prog X.w X.K tg J fp it tn ∧ tn 0 s2.heap ∧ (∀ b ∈ fp, FpOk X pins H' b) ∧ R J H'
noncomputable def PI (X : Cx) (tg iter : Expr) (wi : TI) : Prop :=
  ∀ (pins : List (Addr × Obj)) (s : Shared) (σ : St) (H : Hp) (R : It → Hp → Prop), Inv X pins σ H s → wi σ H R →
    wpAny (model X.prog X.w) X.A (eval iter X.env) (fun v s1 => wpAny (model X.prog X.w) X.A (pyIter v) (PIE X pins σ tg R) X.xe s1) X.xe s

/-- the step ahead of the store is nothing for an iterator that keeps no tuple -/
theorem go_of {M : Model} {A : Around} {E : Value → Shared → Prop} {s : Shared} {tg : Expr} {it : Addr} {u : Value} {o : Obj} {n : String} {vs : Array Value} {Q : Unit → Shared → Prop} (ho : s.heap.get? it = some o) (hc : o.cls = .type n) (hd : o.data = .fields vs)
    (hn : ["enumerate", "zip", "dict_itemiterator", "dict_reverseitemiterator", "odict_iterator", "itertools.zip_longest", "itertools.pairwise"].contains n = false) (hQ : Q () s) : wpAny M A (letOwnedTupleGo tg (.ref it) u) Q E s := by
  unfold letOwnedTupleGo
  cases tg <;> first
    | exact wpAny_pure hQ
    | (cases u <;> first
        | exact wpAny_pure hQ
        | (refine wpAny_bind (wpAny_load ho ?_)
           rw [hc, hd]
           show wpAny M A (if (["enumerate", "zip", "dict_itemiterator", "dict_reverseitemiterator", "odict_iterator", "itertools.zip_longest", "itertools.pairwise"].contains n && vs[0]? == some (rawInt _)) = true then _ else _) Q E s
           rw [if_neg (by intro h; rw [hn, Bool.false_and] at h; cases h)]
           exact wpAny_pure hQ))

/-- the list at a, as it stands at each turn (a loop may append to it) -/
noncomputable def Itl (K : PySem.W.Frag) (a : Addr) : It :=
  ⟨fun i H => ∃ xs x, SqL K H a xs ∧ xs[i]? = some x, fun i H x H' => H' = H ∧ ∀ xs, SqL K H a xs → xs[i]? = some x, fun i H => ∃ xs, SqL K H a xs ∧ xs.length ≤ i⟩
noncomputable def Itt (K : PySem.W.Frag) (a : Addr) : It :=
  ⟨fun i H => ∃ xs x, SqT K H a xs ∧ xs[i]? = some x, fun i H x H' => H' = H ∧ ∀ xs, SqT K H a xs → xs[i]? = some x, fun i H => ∃ xs, SqT K H a xs ∧ xs.length ≤ i⟩
/-- lo, lo + 1, .. (n of them) -/
noncomputable def Itr (lo : Int) (n : Nat) : It := ⟨fun i _ => i < n, fun i H x H' => H' = H ∧ x = .int (lo + i), fun i _ => n ≤ i⟩
theorem turn_list {P : Program} {w : World} {K : PySem.W.Frag} {tg : Expr} (a it : Addr) : Turn P w K tg (Itl K a) [it] it (fun i h => h.IsListIter it a i) where
  mem := by simp
  obj := fun i h st b hb => by
    have e : b = it := by simpa using hb
    subst e
    obtain ⟨o, e, c, d⟩ := st
    exact ⟨o, e, fun v z => by rw [d] at z; cases z⟩
  keep := fun i h h' st k => st.at fun o e => k it (by simp) o e
  item := by
    intro X hP hw hK hc i pins s σ H E I hf st hg
    subst hP hw hK
    obtain ⟨xs, x, hq, hx⟩ := hg
    obtain ⟨its, rv, p, hz⟩ := I.list hq
    obtain ⟨u, hu, ru⟩ := rv.get hx
    obtain ⟨f0, f1, f2, f3, f4, f5⟩ := hf it (by simp)
    refine wpAny_pyNext_list_item st p.isList (x := u) (by simpa using hu) fun h' st' sb => ?_
    have I1 : Inv X pins σ H { s with heap := h' } := I.turned (t' := s.toks) (fun b o hb e => (sb.2 b hb).trans e) f0 f1 f3 f4 f5
    obtain ⟨o, e, c, d⟩ := id st'
    exact ⟨u, rfl, go_of (s := { s with heap := h' }) e c d (by decide) ⟨x, H, I1, ru, ⟨rfl, fun ys hy => by rw [I.list_inj hy hq]; exact hx⟩, st', fun b hb => (hf b hb).1⟩⟩
  done := by
    intro X hP hw hK hc i pins s σ H E I hf st hg
    subst hP hw hK
    obtain ⟨xs, hq, hx⟩ := hg
    obtain ⟨its, rv, p, hz⟩ := I.list hq
    obtain ⟨f0, f1, f2, f3, f4, f5⟩ := hf it (by simp)
    have hl := rv.length
    exact wpAny_pyNext_list_end (I.ok.hd hc) st p.isList (by simp; omega) fun h' eb => ⟨rfl, I.turned (t' := s.toks) (fun b o hb e => eb b o hb e) f0 f1 f3 f4 f5⟩
  self := fun _ _ _ _ _ st h => wpAny_pyIter_listiter st h
theorem turn_tuple {P : Program} {w : World} {K : PySem.W.Frag} {tg : Expr} (a it : Addr) : Turn P w K tg (Itt K a) [it] it (fun i h => h.IsTupleIter it a i) where
  mem := by simp
  obj := fun i h st b hb => by
    have e : b = it := by simpa using hb
    subst e
    obtain ⟨o, e, c, d⟩ := st
    exact ⟨o, e, fun v z => by rw [d] at z; cases z⟩
  keep := fun i h h' st k => st.at fun o e => k it (by simp) o e
  item := by
    intro X hP hw hK hc i pins s σ H E I hf st hg
    subst hP hw hK
    obtain ⟨xs, x, hq, hx⟩ := hg
    obtain ⟨its, rv, p, hz⟩ := I.tuple hq
    obtain ⟨u, hu, ru⟩ := rv.get hx
    obtain ⟨f0, f1, f2, f3, f4, f5⟩ := hf it (by simp)
    refine wpAny_pyNext_tuple_item st (show s.heap.IsTuple a its.toArray from p) (x := u) (by simpa using hu) fun h' st' sb => ?_
    have I1 : Inv X pins σ H { s with heap := h' } := I.turned (t' := s.toks) (fun b o hb e => (sb.2 b hb).trans e) f0 f1 f3 f4 f5
    obtain ⟨o, e, c, d⟩ := id st'
    exact ⟨u, rfl, go_of (s := { s with heap := h' }) e c d (by decide) ⟨x, H, I1, ru, ⟨rfl, fun ys hy => by rw [I.tuple_inj hy hq]; exact hx⟩, st', fun b hb => (hf b hb).1⟩⟩
  done := by
    intro X hP hw hK hc i pins s σ H E I hf st hg
    subst hP hw hK
    obtain ⟨xs, hq, hx⟩ := hg
    obtain ⟨its, rv, p, hz⟩ := I.tuple hq
    obtain ⟨f0, f1, f2, f3, f4, f5⟩ := hf it (by simp)
    have hl := rv.length
    exact wpAny_pyNext_tuple_end (I.ok.hd hc) st (show s.heap.IsTuple a its.toArray from p) (by simp; omega) fun h' eb => ⟨rfl, I.turned (t' := s.toks) (fun b o hb e => eb b o hb e) f0 f1 f3 f4 f5⟩
  self := fun _ _ _ _ _ st h => wpAny_pyIter_tupleiter st h
theorem turn_range {P : Program} {w : World} {K : PySem.W.Frag} {tg : Expr} (it : Addr) (lo : Int) (n : Nat) : Turn P w K tg (Itr lo n) [it] it (fun i h => IsRangeIter h it (lo + (i : Nat) * 1) ((n : Int) - (i : Nat)) 1) where
  mem := by simp
  obj := fun i h st b hb => by
    have e : b = it := by simpa using hb
    subst e
    exact ⟨_, st, fun v z => by
      have z' : Data.fields _ = Data.cell v := z
      cases z'⟩
  keep := fun i h h' st k => k it (by simp) _ st
  item := by
    intro X hP hw hK hc i pins s σ H E I hf st hg
    subst hP hw hK
    obtain ⟨f0, f1, f2, f3, f4, f5⟩ := hf it (by simp)
    have W := Walks.range (prog := X.prog) (w := X.w) (I.ok.hd hc) it lo 1 n
    refine W.item i s _ _ hg st fun v h' tk hv st' kk => ?_
    obtain ⟨t, rfl⟩ := hv
    have I1 : Inv X pins σ H { s with heap := h', toks := tk } := I.turned (fun b o hb e => kk b o (by simpa using hb) e) f0 f1 f3 f4 f5
    refine ⟨_, rfl, go_of (s := { s with heap := h', toks := tk }) (n := "range_iterator") st' rfl rfl (by decide) ⟨.int (lo + i), H, I1, ⟨t, ?_⟩, ⟨rfl, rfl⟩, st', fun b hb => (hf b hb).1⟩⟩
    rw [Int.mul_one]
  done := by
    intro X hP hw hK hc i pins s σ H E I hf st hg
    subst hP hw hK
    obtain ⟨f0, f1, f2, f3, f4, f5⟩ := hf it (by simp)
    exact wpAny_pyNext_range_end (I.ok.hd hc) st (by have : n ≤ i := hg; omega) fun h' eb => ⟨rfl, I.turned (t' := s.toks) (fun b o hb e => eb b o hb e) f0 f1 f3 f4 f5⟩
  self := fun _ _ _ _ _ st h => wpAny_pyIter_rangeiter st h
end L2

namespace L2
open PySem PySem.Spec PyProof.Rows
section
variable {X : Cx} {tg : Expr}
/-- a range object just made, walked -/
theorem range_it {pins : List (Addr × Obj)} {σ : St} {H : Hp} {s : Shared} {R : It → Hp → Prop} {E : Value → Shared → Prop} {lo hi : Int} {t u v : Tok} {tk : Nat} (I : Inv X pins σ H s) (h1 : -(2 ^ 62) ≤ lo) (h2 : lo < 2 ^ 62) (h3 : -(2 ^ 62) ≤ hi) (h4 : hi < 2 ^ 62)
    (q : R (Itr lo (hi - lo).toNat) H) : wpAny (model X.prog X.w) X.A (pyIter (.ref s.heap.objs.size)) (PIE X pins σ tg R) E { s with heap := s.heap.push { cls := .type "range", data := .fields #[.int lo t, .int hi u, .int 1 v] }, toks := tk } := by
  refine wpAny_pyIter_range (IsRange.new ..) (small_one h1 h2 h3 h4) ?_
  have I1 : Inv X pins σ H { s with heap := s.heap.push { cls := .type "range", data := .fields #[.int lo t, .int hi u, .int 1 v] }, toks := tk } := I.kept fun b o e => Heap.get?_push_of_some _ e
  refine ⟨(s.heap.push { cls := .type "range", data := .fields #[.int lo t, .int hi u, .int 1 v] }).objs.size, [(s.heap.push { cls := .type "range", data := .fields #[.int lo t, .int hi u, .int 1 v] }).objs.size], _, _, H, rfl,
    I1.kept (t' := tk) fun b o e => Heap.get?_push_of_some _ e, turn_range _ lo (hi - lo).toNat, ?_, fun b hb => ?_, q⟩
  · have e1 : lo + ((0 : Nat) : Int) * 1 = lo := by simp
    have e2 : (((hi - lo).toNat : Nat) : Int) - ((0 : Nat) : Int) = Builtin.Range.rangeSize lo hi 1 := by rw [rangeSize_one]; split <;> omega
    show IsRangeIter _ _ (lo + ((0 : Nat) : Int) * 1) ((((hi - lo).toNat : Nat) : Int) - ((0 : Nat) : Int)) 1
    rw [e1, e2]
    exact Heap.get?_push_size _ rfl
  · have e : b = (s.heap.push { cls := .type "range", data := .fields #[.int lo t, .int hi u, .int 1 v] }).objs.size := by simpa using hb
    subst e
    exact I1.fpOk (Nat.le_refl _) (I1.hok.fresh (Nat.le_refl _))
/-! ### for -/
/-- W: the invariant by the turn and a measure; N: what the body is to reach -/
noncomputable def tFor (wi : TI) (g : TG) (tb : TS) : TS := fun D σ H => wi σ H fun J H1 => ∃ W : Nat → Nat → St → Hp → Prop, (∃ m, W 0 m σ H1) ∧ ∀ i m σ H, W i m σ H →
  (J.stop i H ∧ D.nx σ H) ∨ (J.go i H ∧ ∃ N : St → Hp → Prop, (∀ σ' H', N σ' H' → ∃ m', m' < m ∧ W (i + 1) m' σ' H') ∧ ∀ x H', J.yld i H x H' → g x σ H' fun σ2 H2 => tb { D with nx := N, ct := N, bk := D.nx } σ2 H2)
/-- the records at fp as they stand -/
noncomputable def pinsAt (fp : List Addr) (h : Heap) : List (Addr × Obj) := fp.filterMap fun b => (h.get? b).map fun o => (b, o)
theorem mem_pinsAt {fp : List Addr} {h : Heap} {b : Addr} {o : Obj} (hb : b ∈ fp) (e : h.get? b = some o) : (b, o) ∈ pinsAt fp h := List.mem_filterMap.mpr ⟨b, hb, by rw [e]; rfl⟩
theorem of_pinsAt {fp : List Addr} {h : Heap} {p : Addr × Obj} (hp : p ∈ pinsAt fp h) : p.1 ∈ fp ∧ h.get? p.1 = some p.2 := by
  obtain ⟨b, hb, e⟩ := List.mem_filterMap.mp hp
  cases q : h.get? b with
  | none => rw [q] at e; cases e
  | some o =>
    rw [q] at e
    have e' : (b, o) = p := Option.some.inj e
    subst e'
    exact ⟨hb, q⟩
theorem Inv.pinned {pins : List (Addr × Obj)} {σ : St} {H : Hp} {s : Shared} {fp : List Addr} (I : Inv X pins σ H s) (hf : ∀ b ∈ fp, FpOk X pins H b) (ho : ∀ b ∈ fp, ∃ o, s.heap.get? b = some o ∧ ∀ v, o.data ≠ .cell v) : Inv X (pins ++ pinsAt fp s.heap) σ H s :=
  I.pins_of fun p hp => (List.mem_append.mp hp).elim (fun z => I.pin p (List.mem_append_right _ z)) fun z => by
    obtain ⟨hb, e⟩ := of_pinsAt z
    obtain ⟨f0, f1, f2, _⟩ := hf p.1 hb
    obtain ⟨o, e', d⟩ := ho p.1 hb
    rw [e] at e'; cases e'
    exact ⟨e, f0, f1, f2, d⟩
theorem Inv.unpinned {pins pl : List (Addr × Obj)} {σ : St} {H : Hp} {s : Shared} (I : Inv X (pins ++ pl) σ H s) : Inv X pins σ H s := I.pins_of fun p hp => I.pin p (List.mem_append_right _ (List.mem_append_left _ hp))
theorem ps_for {iter : Expr} {body : List Stmt} {wi : TI} {g : TG} {tb : TS} {pos : Pos} (hp : PassesOwn (model X.prog X.w) X.A X.env X.xe) (hc : X.calm = true) (hi : PI X tg iter wi) (hg : PG X tg g) (hb : PSs X body tb)
    (hs : ∀ x, foldedSetIterable iter X.env x = pure x := by intro _; rfl) : PS X (.For tg iter body [] pos) (tFor wi g tb) := by
  intro pins s σ H D I h
  refine wpAny_For (thn (hi pins s σ H _ I h) fun v s1 h1 => thn h1 fun itv s2 h2 => ?_) hs
  obtain ⟨it, fp, tn, J, H2, e, I2, T, st2, f2, W, ⟨m0, w0⟩, turn⟩ := h2
  subst e
  -- what stays true of the iterator's objects through the loop
  have stat : ∀ {H' : Hp}, (∀ b ∈ fp, H' b = none) → ∀ b ∈ fp, FpOk X pins H' b := fun hn b hb => ⟨hn b hb, (f2 b hb).2⟩
  refine codeAny_forLoop_any (fun n s' => ∃ i σ' H', Inv X pins σ' H' s' ∧ tn i s'.heap ∧ (∀ b ∈ fp, H' b = none) ∧ W i n σ' H') ?_ m0 ⟨0, σ, H2, I2, st2, fun b hb => (f2 b hb).1, w0⟩
  rintro n s3 ⟨i, σ3, H3, I3, st3, fr3, w3⟩
  rcases turn i n σ3 H3 w3 with ⟨stop, qn⟩ | ⟨go, N, hN, step⟩
  · refine wpAny_passesOwn hp (thn (T.done X rfl rfl rfl hc i pins s3 σ3 H3 X.xe I3 (stat fr3) st3 stop) fun r s4 ⟨hr, I4⟩ => ?_)
    subst hr
    exact wpAny_execs_nil ⟨σ3, H3, I4, qn⟩
  · refine wpAny_passesOwn hp (thn (T.item X rfl rfl rfl hc i pins s3 σ3 H3 X.xe I3 (stat fr3) st3 go) fun r s4 ⟨u, hr, h4⟩ => ?_)
    subst hr
    refine wpAny_passesOwn hp (thn h4 fun _ s5 ⟨x, H5, I5, r5, y5, st5, fr5⟩ => ?_)
    have I5' := I5.pinned (stat fr5) (T.obj _ _ st5)
    refine wpAny_passesOwn hp (thn (hg _ s5 σ3 H5 x u _ I5' r5 (step x H5 y5)) fun _ s6 ⟨σ6, H6, I6, q6⟩ => ?_)
    refine wpAny_passesOwn hp (thn (hb _ s6 σ6 H6 _ I6 q6) fun f s7 q7 => ?_)
    have again : ∀ {σ7 : St} {H7 : Hp}, Inv X (pins ++ pinsAt fp s5.heap) σ7 H7 s7 → N σ7 H7 → ∃ m, m < n ∧ ∃ i σ' H', Inv X pins σ' H' s7 ∧ tn i s7.heap ∧ (∀ b ∈ fp, H' b = none) ∧ W i m σ' H' := fun {σ7 H7} I7 n7 => by
      obtain ⟨m', hm, w7⟩ := hN σ7 H7 n7
      refine ⟨m', hm, i + 1, σ7, H7, I7.unpinned, T.keep _ _ _ st5 fun b hb o e => (I7.pin (b, o) (List.mem_append_right _ (List.mem_append_right _ (mem_pinsAt hb e)))).1, fun b hb => ?_, w7⟩
      obtain ⟨o, e, d⟩ := T.obj _ _ st5 b hb
      exact (I7.pin (b, o) (List.mem_append_right _ (List.mem_append_right _ (mem_pinsAt hb e)))).2.1
    cases f with
    | next => obtain ⟨σ7, H7, I7, n7⟩ := q7; exact again I7 n7
    | cont => obtain ⟨σ7, H7, I7, n7⟩ := q7; exact again I7 n7
    | brk => obtain ⟨σ7, H7, I7, q7⟩ := q7; exact ⟨σ7, H7, I7.unpinned, q7⟩
    | ret v => obtain ⟨x7, σ7, H7, I7, r7, q7⟩ := q7; exact ⟨x7, σ7, H7, I7.unpinned, r7, q7⟩
end

/-! ### the forms one uses -/
/-- over a list that the body leaves as it is -/
theorem for_list {K : PySem.W.Frag} {a : Addr} {xs : List V} {g : TG} {tb : TS} {D : Ends} {σ : St} {H : Hp} (Pv : Nat → St → Hp → Prop) (h0 : Pv 0 σ H) (hl : ∀ i σ H, i ≤ xs.length → Pv i σ H → SqL K H a xs)
    (hs : ∀ i x σ H, xs[i]? = some x → Pv i σ H → g x σ H fun σ2 H2 => tb { D with nx := Pv (i + 1), ct := Pv (i + 1), bk := D.nx } σ2 H2) (hd : ∀ σ H, Pv xs.length σ H → D.nx σ H) :
    ∃ W : Nat → Nat → St → Hp → Prop, (∃ m, W 0 m σ H) ∧ ∀ i m σ H, W i m σ H →
      ((Itl K a).stop i H ∧ D.nx σ H) ∨ ((Itl K a).go i H ∧ ∃ N : St → Hp → Prop, (∀ σ' H', N σ' H' → ∃ m', m' < m ∧ W (i + 1) m' σ' H') ∧ ∀ x H', (Itl K a).yld i H x H' → g x σ H' fun σ2 H2 => tb { D with nx := N, ct := N, bk := D.nx } σ2 H2) := by
  refine ⟨fun i m σ H => m = xs.length - i ∧ i ≤ xs.length ∧ Pv i σ H, ⟨xs.length, by simp, Nat.zero_le _, h0⟩, ?_⟩
  rintro i m σ H ⟨rfl, hi, p⟩
  have q := hl i σ H hi p
  by_cases hlt : i < xs.length
  · refine .inr ⟨⟨xs, xs[i], q, by simp [hlt]⟩, Pv (i + 1), fun σ' H' p' => ⟨xs.length - (i + 1), by omega, rfl, hlt, p'⟩, fun x H' y => ?_⟩
    obtain ⟨e, y⟩ := y
    subst e
    exact hs i x σ _ (y xs q) p
  · have e : i = xs.length := by omega
    subst e
    exact .inl ⟨⟨xs, q, Nat.le_refl _⟩, hd σ H p⟩
theorem for_tup {K : PySem.W.Frag} {a : Addr} {xs : List V} {g : TG} {tb : TS} {D : Ends} {σ : St} {H : Hp} (Pv : Nat → St → Hp → Prop) (h0 : Pv 0 σ H) (hl : ∀ i σ H, i ≤ xs.length → Pv i σ H → SqT K H a xs)
    (hs : ∀ i x σ H, xs[i]? = some x → Pv i σ H → g x σ H fun σ2 H2 => tb { D with nx := Pv (i + 1), ct := Pv (i + 1), bk := D.nx } σ2 H2) (hd : ∀ σ H, Pv xs.length σ H → D.nx σ H) :
    ∃ W : Nat → Nat → St → Hp → Prop, (∃ m, W 0 m σ H) ∧ ∀ i m σ H, W i m σ H →
      ((Itt K a).stop i H ∧ D.nx σ H) ∨ ((Itt K a).go i H ∧ ∃ N : St → Hp → Prop, (∀ σ' H', N σ' H' → ∃ m', m' < m ∧ W (i + 1) m' σ' H') ∧ ∀ x H', (Itt K a).yld i H x H' → g x σ H' fun σ2 H2 => tb { D with nx := N, ct := N, bk := D.nx } σ2 H2) := by
  refine ⟨fun i m σ H => m = xs.length - i ∧ i ≤ xs.length ∧ Pv i σ H, ⟨xs.length, by simp, Nat.zero_le _, h0⟩, ?_⟩
  rintro i m σ H ⟨rfl, hi, p⟩
  have q := hl i σ H hi p
  by_cases hlt : i < xs.length
  · refine .inr ⟨⟨xs, xs[i], q, by simp [hlt]⟩, Pv (i + 1), fun σ' H' p' => ⟨xs.length - (i + 1), by omega, rfl, hlt, p'⟩, fun x H' y => ?_⟩
    obtain ⟨e, y⟩ := y
    subst e
    exact hs i x σ _ (y xs q) p
  · have e : i = xs.length := by omega
    subst e
    exact .inl ⟨⟨xs, q, Nat.le_refl _⟩, hd σ H p⟩
theorem for_range {lo : Int} {n : Nat} {g : TG} {tb : TS} {D : Ends} {σ : St} {H : Hp} (Pv : Nat → St → Hp → Prop) (h0 : Pv 0 σ H)
    (hs : ∀ i σ H, i < n → Pv i σ H → g (.int (lo + i)) σ H fun σ2 H2 => tb { D with nx := Pv (i + 1), ct := Pv (i + 1), bk := D.nx } σ2 H2) (hd : ∀ σ H, Pv n σ H → D.nx σ H) :
    ∃ W : Nat → Nat → St → Hp → Prop, (∃ m, W 0 m σ H) ∧ ∀ i m σ H, W i m σ H →
      ((Itr lo n).stop i H ∧ D.nx σ H) ∨ ((Itr lo n).go i H ∧ ∃ N : St → Hp → Prop, (∀ σ' H', N σ' H' → ∃ m', m' < m ∧ W (i + 1) m' σ' H') ∧ ∀ x H', (Itr lo n).yld i H x H' → g x σ H' fun σ2 H2 => tb { D with nx := N, ct := N, bk := D.nx } σ2 H2) := by
  refine ⟨fun i m σ H => m = n - i ∧ i ≤ n ∧ Pv i σ H, ⟨n, by simp, Nat.zero_le _, h0⟩, ?_⟩
  rintro i m σ H ⟨rfl, hi, p⟩
  by_cases hlt : i < n
  · refine .inr ⟨hlt, Pv (i + 1), fun σ' H' p' => ⟨n - (i + 1), by omega, rfl, hlt, p'⟩, fun x H' y => ?_⟩
    obtain ⟨e, y⟩ := y
    subst e y
    exact hs i σ _ hlt p
  · have e : i = n := by omega
    subst e
    exact .inl ⟨Nat.le_refl _, hd σ H p⟩
end L2

namespace L2
open PySem PySem.Spec PyProof.Rows

noncomputable abbrev R2 := V → V → Hp → VK → Prop
/-- a two-place operation on values: f is binaryOp op, inplaceOp op or compareOp op -/
noncomputable def OpR (X : Cx) (f : Value → Value → Sem Value) (r : R2) : Prop :=
  ∀ (pins : List (Addr × Obj)) (s : Shared) (σ : St) (H : Hp) (x y : V) (v u : Value) (Q : VK), Inv X pins σ H s → RelV x v → RelV y u → r x y H Q →
    wpAny (model X.prog X.w) X.A (f v u) (EP X pins σ Q) X.xe s
/-- a one-place operation -/
noncomputable def UnR (X : Cx) (f : Value → Sem Value) (r : V → Hp → VK → Prop) : Prop :=
  ∀ (pins : List (Addr × Obj)) (s : Shared) (σ : St) (H : Hp) (x : V) (v : Value) (Q : VK), Inv X pins σ H s → RelV x v → r x H Q →
    wpAny (model X.prog X.w) X.A (f v) (EP X pins σ Q) X.xe s
/-- a call of a value that is known (a builtin, a type) with values -/
noncomputable def CallR (X : Cx) (f : Value) (r : List V → Hp → VK → Prop) : Prop :=
  ∀ (pins : List (Addr × Obj)) (s : Shared) (σ : St) (H : Hp) (xs : List V) (us : List Value) (Q : VK), Inv X pins σ H s → Vals xs us → r xs H Q →
    wpAny (model X.prog X.w) X.A (call f us) (EP X pins σ Q) X.xe s
/-- a value's truth -/
noncomputable def TruR (X : Cx) (r : V → Hp → (Bool → Hp → Prop) → Prop) : Prop :=
  ∀ (pins : List (Addr × Obj)) (s : Shared) (σ : St) (H : Hp) (x : V) (v : Value) (Q : Bool → Hp → Prop), Inv X pins σ H s → RelV x v → r x H Q →
    wpAny (model X.prog X.w) X.A (truthy v) (TP X pins σ Q) X.xe s

noncomputable def tOp (r : R2) (ta tb : TE) : TE := fun σ H Q => ta σ H fun x H1 => tb σ H1 fun y H2 => r x y H2 Q
noncomputable def tUn (r : V → Hp → VK → Prop) (ta : TE) : TE := fun σ H Q => ta σ H fun x H1 => r x H1 Q
/-- ints in, under C, and a value out -/
noncomputable def rI (C : Int → Int → Prop) (g : Int → Int → V) : R2 := fun x y H Q => ∃ i j, x = .int i ∧ y = .int j ∧ C i j ∧ Q (g i j) H
noncomputable def rI0 (g : Int → Int → V) : R2 := fun x y H Q => ∃ i j, x = .int i ∧ y = .int j ∧ Q (g i j) H
noncomputable def rU (g : Int → V) : V → Hp → VK → Prop := fun x H Q => ∃ i, x = .int i ∧ Q (g i) H

section
variable {X : Cx} {a b c : Expr} {ta tb tc : TE} {pos : Pos}

theorem binT (ha : PE X a ta) (hb : PE X b tb) {pins : List (Addr × Obj)} {s : Shared} {σ : St} {H : Hp} {R : V → V → Hp → Prop} (I : Inv X pins σ H s)
    (h : ta σ H fun x H1 => tb σ H1 fun y H2 => R x y H2) {Q : Value → Shared → Prop} {f : Value → Value → Sem Value}
    (hf : ∀ v u s2 x y H2, Inv X pins σ H2 s2 → RelV x v → RelV y u → R x y H2 → wpAny (model X.prog X.w) X.A (f v u) Q X.xe s2) :
    wpAny (model X.prog X.w) X.A (eval a X.env) (fun v s₁ => wpAny (model X.prog X.w) X.A (eval b X.env) (fun u s₂ => wpAny (model X.prog X.w) X.A (f v u) Q X.xe s₂) X.xe s₁) X.xe s := by
  refine thn (ha pins s σ H _ I h) fun v s1 ⟨x, H1, I1, r1, q1⟩ => ?_
  refine thn (hb pins s1 σ H1 _ I1 q1) fun u s2 ⟨y, H2, I2, r2, q2⟩ => ?_
  exact hf v u s2 x y H2 I2 r1 r2 q2

theorem pe_op {op : Operator} {r : R2} (ho : OpR X (binaryOp op) r) (ha : PE X a ta) (hb : PE X b tb) : PE X (.BinOp a op b pos) (tOp r ta tb) := by
  intro pins s σ H Q I h
  exact wpAny_BinOp (binT ha hb I h fun v u s2 x y H2 I2 rx ry q => ho pins s2 σ H2 x y v u Q I2 rx ry q)
theorem pe_un {op : UnaryOp} {r : V → Hp → VK → Prop} (ho : UnR X (unaryOp op) r) (ha : PE X a ta) : PE X (.UnaryOp op a pos) (tUn r ta) := by
  intro pins s σ H Q I h
  exact UnaryOp_ (thn (ha pins s σ H _ I h) fun v s1 ⟨x, H1, I1, r1, q1⟩ => ho pins s1 σ H1 x v Q I1 r1 q1)
/-! ### ints -/
theorem opI {f : Value → Value → Sem Value} {C : Int → Int → Prop} {g : Int → Int → Int}
    (rule : ∀ (i j : Int) (t u : Tok) (s : Shared) (Q : Value → Shared → Prop) (E : Value → Shared → Prop), C i j → Q (.int (g i j) s.toks) { s with toks := s.toks + 1 } → wpAny (model X.prog X.w) X.A (f (.int i t) (.int j u)) Q E s) :
    OpR X f (rI C fun i j => .int (g i j)) := by
  intro pins s σ H x y v u Q I rx ry h
  obtain ⟨i, j, rfl, rfl, hc, q⟩ := h
  obtain ⟨t, rfl⟩ := rx
  obtain ⟨t', rfl⟩ := ry
  exact rule i j t t' s _ _ hc ⟨.int (g i j), H, I.tok _, ⟨_, rfl⟩, q⟩
theorem opI0 {f : Value → Value → Sem Value} {g : Int → Int → Int}
    (rule : ∀ (i j : Int) (t u : Tok) (s : Shared) (Q : Value → Shared → Prop) (E : Value → Shared → Prop), Q (.int (g i j) s.toks) { s with toks := s.toks + 1 } → wpAny (model X.prog X.w) X.A (f (.int i t) (.int j u)) Q E s) :
    OpR X f (rI0 fun i j => .int (g i j)) := by
  intro pins s σ H x y v u Q I rx ry h
  obtain ⟨i, j, rfl, rfl, q⟩ := h
  obtain ⟨t, rfl⟩ := rx
  obtain ⟨t', rfl⟩ := ry
  exact rule i j t t' s _ _ ⟨.int (g i j), H, I.tok _, ⟨_, rfl⟩, q⟩
theorem opB0 {f : Value → Value → Sem Value} {g : Int → Int → Bool}
    (rule : ∀ (i j : Int) (t u : Tok) (s : Shared) (Q : Value → Shared → Prop) (E : Value → Shared → Prop), Q (.bool (g i j)) s → wpAny (model X.prog X.w) X.A (f (.int i t) (.int j u)) Q E s) :
    OpR X f (rI0 fun i j => .bl (g i j)) := by
  intro pins s σ H x y v u Q I rx ry h
  obtain ⟨i, j, rfl, rfl, q⟩ := h
  obtain ⟨t, rfl⟩ := rx
  obtain ⟨t', rfl⟩ := ry
  exact rule i j t t' s _ _ ⟨.bl (g i j), H, I, rfl, q⟩

noncomputable def CPow (i j : Int) : Prop := 0 ≤ j ∧ j ≤ 1000000 ∧ i.natAbs < 2 ^ 64
noncomputable def CMul (i j : Int) : Prop := (-(2 ^ 64) < i ∧ i < 2 ^ 64) ∨ (-(2 ^ 64) < j ∧ j < 2 ^ 64)
theorem CMul.ok {i j : Int} (h : CMul i j) : IntMulOk i j := by
  rcases h with ⟨h1, h2⟩ | ⟨h1, h2⟩
  · exact .of_left (intBits_le_64 h1 h2)
  · exact .of_right (intBits_le_64 h1 h2)
theorem op_add : OpR X (binaryOp .Add) (rI0 fun i j => .int (i + j)) := opI0 fun _ _ _ _ _ _ _ q => add_int q
theorem op_sub : OpR X (binaryOp .Sub) (rI0 fun i j => .int (i - j)) := opI0 fun _ _ _ _ _ _ _ q => sub_int q
theorem op_modN : OpR X (binaryOp .Mod) (rI (fun _ j => j ≠ 0) fun i j => .int (i.fmod j)) := opI fun _ _ _ _ _ _ _ hc q => mod_int' hc q
theorem op_pow : OpR X (binaryOp .Pow) (rI CPow fun i j => .int (i ^ j.toNat)) := opI fun _ _ _ _ _ _ _ hc q => pow_int_small hc.1 hc.2.1 hc.2.2 q
theorem unI {f : Value → Sem Value} {g : Int → Int}
    (rule : ∀ (i : Int) (t : Tok) (s : Shared) (Q : Value → Shared → Prop) (E : Value → Shared → Prop), Q (.int (g i) s.toks) { s with toks := s.toks + 1 } → wpAny (model X.prog X.w) X.A (f (.int i t)) Q E s) :
    UnR X f (rU fun i => .int (g i)) := by
  intro pins s σ H x v Q I rx h
  obtain ⟨i, rfl, q⟩ := h
  obtain ⟨t, rfl⟩ := rx
  exact rule i t s _ _ ⟨.int (g i), H, I.tok _, ⟨_, rfl⟩, q⟩
theorem un_neg : UnR X (unaryOp .USub) (rU fun i => .int (-i)) := unI fun _ _ _ _ _ q => neg_int q
/-! ### bools among ints: n += (a < b) -/
end

/-! ### comparisons -/
/-- the scalars that == tells apart as data does -/
noncomputable def scal : V → V → Bool
  | .non, .non => true | .non, .int _ => true | .int _, .non => true | .non, .bl _ => true | .bl _, .non => true | .non, .str _ => true | .str _, .non => true
  | .int _, .int _ => true | .bl _, .bl _ => true | .str _, .str _ => true | .byt _, .byt _ => true
  | .int _, .str _ => true | .str _, .int _ => true | .bl _, .str _ => true | .str _, .bl _ => true
  | _, _ => false
noncomputable def rEq : R2 := fun x y H Q => scal x y = true ∧ Q (.bl (decide (x = y))) H
noncomputable def rNe : R2 := fun x y H Q => scal x y = true ∧ Q (.bl (!decide (x = y))) H

theorem dec_int {i j : Int} : decide (V.int i = V.int j) = (i == j) := by
  rw [Bool.eq_iff_iff]
  simp
theorem dec_bl {i j : Bool} : decide (V.bl i = V.bl j) = (i == j) := by
  rw [Bool.eq_iff_iff]
  simp
theorem dec_str {i j : Str} : decide (V.str i = V.str j) = (i == j) := by
  rw [Bool.eq_iff_iff]
  simp
theorem dec_byt {i j : Array UInt8} : decide (V.byt i = V.byt j) = (i.toList == j.toList) := by
  rw [Bool.eq_iff_iff]
  cases i
  cases j
  simp

section
variable {X : Cx} {a b c : Expr} {ta tb tc : TE} {pos : Pos}
theorem fin_bl {pins : List (Addr × Obj)} {σ : St} {H : Hp} {s : Shared} {Q : VK} {k k' : Bool} (I : Inv X pins σ H s) (q : Q (.bl k) H) (e : k = k') : EP X pins σ Q (.bool k') s := by
  subst e
  exact ⟨.bl k, H, I, rfl, q⟩
theorem op_eq : OpR X (compareOp .Eq) rEq := by
  intro pins s σ H x y v u Q I rx ry h
  obtain ⟨hs, q⟩ := h
  cases x with
  | non =>
    cases rx
    cases y with
    | non => cases ry; exact PySem.EqNone.eq_none_none (fin_bl I q (by simp))
    | bl j => cases ry; exact PySem.EqNone.eq_none_bool (fin_bl I q (by simp))
    | int j => obtain ⟨t', rfl⟩ := ry; exact PySem.EqNone.eq_none_int (fin_bl I q (by simp))
    | str j => obtain ⟨t', rfl⟩ := ry; exact PySem.EqNone.eq_none_str (fin_bl I q (by simp))
    | _ => exact absurd (show false = true from hs) Bool.false_ne_true
  | bl i =>
    cases rx
    cases y with
    | non => cases ry; exact PySem.EqNone.eq_bool_none (fin_bl I q (by simp))
    | bl j => cases ry; exact eq_bool (fin_bl I q dec_bl)
    | str j => obtain ⟨t', rfl⟩ := ry; exact PySem.EqMixed.eq_bool_str (fin_bl I q (by simp))
    | _ => exact absurd (show false = true from hs) Bool.false_ne_true
  | int i =>
    obtain ⟨t, rfl⟩ := rx
    cases y with
    | non => cases ry; exact PySem.EqNone.eq_int_none (fin_bl I q (by simp))
    | int j => obtain ⟨t', rfl⟩ := ry; exact eq_int (fin_bl I q dec_int)
    | str j => obtain ⟨t', rfl⟩ := ry; exact PySem.EqMixed.eq_int_str (fin_bl I q (by simp))
    | _ => exact absurd (show false = true from hs) Bool.false_ne_true
  | str i =>
    obtain ⟨t, rfl⟩ := rx
    cases y with
    | non => cases ry; exact PySem.EqNone.eq_str_none (fin_bl I q (by simp))
    | bl j => cases ry; exact PySem.EqMixed.eq_str_bool (fin_bl I q (by simp))
    | int j => obtain ⟨t', rfl⟩ := ry; exact PySem.EqMixed.eq_str_int (fin_bl I q (by simp))
    | str j => obtain ⟨t', rfl⟩ := ry; exact eq_str (fin_bl I q dec_str)
    | _ => exact absurd (show false = true from hs) Bool.false_ne_true
  | byt i =>
    obtain ⟨t, rfl⟩ := rx
    cases y with
    | byt j => obtain ⟨t', rfl⟩ := ry; exact PySem.W.eq_bytes (fin_bl I q dec_byt)
    | _ => exact absurd (show false = true from hs) Bool.false_ne_true
  | _ => cases y <;> exact absurd (show false = true from hs) Bool.false_ne_true
theorem op_ne : OpR X (compareOp .NotEq) rNe := by
  intro pins s σ H x y v u Q I rx ry h
  obtain ⟨hs, q⟩ := h
  cases x with
  | non =>
    cases rx
    cases y with
    | non => cases ry; exact PySem.EqNone.ne_none_none (fin_bl I q (by simp))
    | bl j => cases ry; exact PySem.EqNone.ne_none_bool (fin_bl I q (by simp))
    | int j => obtain ⟨t', rfl⟩ := ry; exact PySem.EqNone.ne_none_int (fin_bl I q (by simp))
    | str j => obtain ⟨t', rfl⟩ := ry; exact PySem.EqNone.ne_none_str (fin_bl I q (by simp))
    | _ => exact absurd (show false = true from hs) Bool.false_ne_true
  | bl i =>
    cases rx
    cases y with
    | non => cases ry; exact PySem.EqNone.ne_bool_none (fin_bl I q (by simp))
    | bl j => cases ry; exact ne_bool (fin_bl I q (congrArg not dec_bl))
    | str j => obtain ⟨t', rfl⟩ := ry; exact PySem.EqMixed.ne_bool_str (fin_bl I q (by simp))
    | _ => exact absurd (show false = true from hs) Bool.false_ne_true
  | int i =>
    obtain ⟨t, rfl⟩ := rx
    cases y with
    | non => cases ry; exact PySem.EqNone.ne_int_none (fin_bl I q (by simp))
    | int j => obtain ⟨t', rfl⟩ := ry; exact ne_int (fin_bl I q (congrArg not dec_int))
    | str j => obtain ⟨t', rfl⟩ := ry; exact PySem.EqMixed.ne_int_str (fin_bl I q (by simp))
    | _ => exact absurd (show false = true from hs) Bool.false_ne_true
  | str i =>
    obtain ⟨t, rfl⟩ := rx
    cases y with
    | non => cases ry; exact PySem.EqNone.ne_str_none (fin_bl I q (by simp))
    | bl j => cases ry; exact PySem.EqMixed.ne_str_bool (fin_bl I q (by simp))
    | int j => obtain ⟨t', rfl⟩ := ry; exact PySem.EqMixed.ne_str_int (fin_bl I q (by simp))
    | str j => obtain ⟨t', rfl⟩ := ry; exact ne_str (fin_bl I q (congrArg not dec_str))
    | _ => exact absurd (show false = true from hs) Bool.false_ne_true
  | byt i =>
    obtain ⟨t, rfl⟩ := rx
    cases y with
    | byt j => obtain ⟨t', rfl⟩ := ry; exact PySem.W.ne_bytes (fin_bl I q (congrArg not dec_byt))
    | _ => exact absurd (show false = true from hs) Bool.false_ne_true
  | _ => cases y <;> exact absurd (show false = true from hs) Bool.false_ne_true

theorem op_lt : OpR X (compareOp .Lt) (rI0 fun i j => .bl (decide (i < j))) := opB0 fun _ _ _ _ _ _ _ q => lt_int q
theorem op_le : OpR X (compareOp .LtE) (rI0 fun i j => .bl (decide (i ≤ j))) := opB0 fun _ _ _ _ _ _ _ q => le_int q
theorem op_gt : OpR X (compareOp .Gt) (rI0 fun i j => .bl (decide (j < i))) := opB0 fun _ _ _ _ _ _ _ q => gt_int q
theorem op_ge : OpR X (compareOp .GtE) (rI0 fun i j => .bl (decide (j ≤ i))) := opB0 fun _ _ _ _ _ _ _ q => ge_int q
/-- is None, is not None: the right side a value none -/
theorem op_isN : OpR X (compareOp .Is) (fun x y H Q => y = .non ∧ Q (.bl (decide (x = .non))) H) := by
  intro pins s σ H x y v u Q I rx ry h
  obtain ⟨rfl, q⟩ := h
  cases ry
  refine is_none_gen (fin_bl I q ?_)
  cases x <;> first
    | (cases rx; rfl)
    | (obtain ⟨t, rfl⟩ := rx; rfl)
theorem nomark (b : Expr) {op : CmpOp} (h : op ≠ .In := by decide) (h2 : op ≠ .NotIn := by decide) : behindInMarks op b = false := by
  have e1 : (op == CmpOp.In) = false := by cases op <;> first | rfl | exact absurd rfl h
  have e2 : (op == CmpOp.NotIn) = false := by cases op <;> first | rfl | exact absurd rfl h2
  cases b <;> simp [behindInMarks, e1, e2]
/-- a comparison as a value; hm: nomark b, or (for in, not in) by with_unfolding_all rfl -/
theorem pe_cmpR {op : CmpOp} {r : R2} (ho : OpR X (compareOp op) r) (ha : PE X a ta) (hb : PE X b tb) (hm : behindInMarks op b = false) : PE X (.Compare a [op] [b] pos) (tOp r ta tb) := by
  intro pins s σ H Q I h
  exact wpAny_Compare1 (binT ha hb I h fun v u s2 x y H2 I2 rx ry q => ho pins s2 σ H2 x y v u Q I2 rx ry q) hm
/-! ### truth -/
/-- a value's truth by the abstract heap -/
noncomputable def TruV (K : PySem.W.Frag) (x : V) (H : Hp) (k : Bool) : Prop :=
  match x with
  | .non => k = false
  | .bl b => k = b
  | .int i => k = (i != 0)
  | .str y => y.length ≤ sizeLine ∧ k = ((y.length : Int) != 0)
  | .byt y => y.size ≤ sizeLine ∧ k = ((y.size : Int) != 0)
  | .ref p => (∃ xs, SqL K H p xs ∧ k = !xs.isEmpty) ∨ (∃ xs, SqT K H p xs ∧ k = !xs.isEmpty) ∨ ∃ kvs, H p = some (.dK kvs) ∧ k = !kvs.isEmpty
  | _ => False
theorem isEmpty_kv {κ : Type} {kvs : List (κ × V)} {vs : List (κ × Value)} (r : KV kvs vs) : (!vs.isEmpty) = !kvs.isEmpty := by
  cases r <;> rfl
theorem isEmpty_of {xs : List V} {its : List Value} (r : Vals xs its) : (!its.toArray.isEmpty) = !xs.isEmpty := by
  cases r <;> simp
theorem line63 : (sizeLine : Nat) < 2 ^ 63 := by rw [sizeLine_eq]; decide
theorem tru_ok : TruR X (fun x H Q => ∃ k, TruV X.K x H k ∧ Q k H) := by
  intro pins s σ H x v Q I rx h
  obtain ⟨k, e, q⟩ := h
  have hl := line63
  have hs : sizeLine = 16777216 := sizeLine_eq
  cases x with
  | non =>
    cases rx
    have e' : k = false := e
    subst e'
    exact truthy_none ⟨H, I, q⟩
  | bl b =>
    cases rx
    have e' : k = b := e
    subst e'
    exact wpAny_truthy_bool ⟨H, I, q⟩
  | int i =>
    obtain ⟨t, rfl⟩ := rx
    have e' : k = (i != 0) := e
    subst e'
    exact PySem.P.truthy_int ⟨H, I, q⟩
  | str y =>
    obtain ⟨t, rfl⟩ := rx
    obtain ⟨hy, e'⟩ : y.length ≤ sizeLine ∧ k = ((y.length : Int) != 0) := e
    subst e'
    exact PySem.P.truthy_str (by omega) ⟨H, I.tok _, q⟩
  | byt y =>
    obtain ⟨t, rfl⟩ := rx
    obtain ⟨hy, e'⟩ : y.size ≤ sizeLine ∧ k = ((y.size : Int) != 0) := e
    subst e'
    exact PySem.W.truthy_bytes (by omega) ⟨H, I.tok _, q⟩
  | ref p =>
    cases rx
    have e' : (∃ xs, SqL X.K H p xs ∧ k = !xs.isEmpty) ∨ (∃ xs, SqT X.K H p xs ∧ k = !xs.isEmpty) ∨ ∃ kvs, H p = some (.dK kvs) ∧ k = !kvs.isEmpty := e
    rcases e' with ⟨xs, hx, e'⟩ | ⟨xs, hx, e'⟩ | ⟨kvs, hx, e'⟩
    · subst e'
      obtain ⟨its, r, pl, hz⟩ := I.list hx
      have hlen := r.length
      exact wpAny_truthy_list pl.isList (by simp only [List.size_toArray]; omega) ⟨H, I.tok _, by rw [isEmpty_of r]; exact q⟩
    · subst e'
      obtain ⟨its, r, pl, hz⟩ := I.tuple hx
      have hlen := r.length
      exact truthy_tuple pl (by simp only [List.size_toArray]; omega) ⟨H, I.tok _, by rw [isEmpty_of r]; exact q⟩
    · subst e'
      obtain ⟨hz, hS, vs, r, m⟩ : kvs.length ≤ sizeLine ∧ (p == sysModules) = false ∧ ∃ vs, KV kvs vs ∧ s.heap.DictOf (mixKind X.prog X.w) p vs := I.hok p _ hx
      have hlen : kvs.length = vs.length := Paired.length r
      exact wpAny_truthy_dict hS m (by omega) ⟨H, I.tok _, by rw [isEmpty_kv r]; exact q⟩
  | _ => exact (show False from e).elim
/-! ### strs and bytes -/
theorem op_add_str : OpR X (binaryOp .Add) (fun x y H Q => ∃ i j, x = .str i ∧ y = .str j ∧ i.length + j.length ≤ sizeLine ∧ Q (.str (i ++ j)) H) := by
  intro pins s σ H x y v u Q I rx ry h
  obtain ⟨i, j, rfl, rfl, hz, q⟩ := h
  obtain ⟨t, rfl⟩ := rx
  obtain ⟨t', rfl⟩ := ry
  exact add_str (fun t' tk => ⟨.str (i ++ j), H, I.tok _, ⟨_, rfl⟩, q⟩) hz
/-! ### scalar builtins, by CallR -/
theorem vals1 {x : V} {us : List Value} (r : Vals [x] us) : ∃ u, us = [u] ∧ RelV x u := by
  cases r with
  | cons r1 r2 => cases r2; exact ⟨_, rfl, r1⟩
theorem vals2 {x y : V} {us : List Value} (r : Vals [x, y] us) : ∃ u w', us = [u, w'] ∧ RelV x u ∧ RelV y w' := by
  cases r with
  | cons r1 r2 =>
    cases r2 with
    | cons r3 r4 => cases r4; exact ⟨_, _, rfl, r1, r3⟩
theorem call_int1 : CallR X (.type "int") (fun xs H Q => (∃ i, xs = [.int i] ∧ Q (.int i) H) ∨ ∃ k, xs = [.bl k] ∧ Q (.int (if k then 1 else 0)) H) := by
  intro pins s σ H xs us Q I r h
  rcases h with ⟨i, rfl, q⟩ | ⟨k, rfl, q⟩
  · obtain ⟨u, rfl, t, rfl⟩ := vals1 r
    exact call_int_int ⟨.int i, H, I, ⟨_, rfl⟩, q⟩
  · obtain ⟨u, rfl, r1⟩ := vals1 r
    cases r1
    exact call_int_bool ⟨.int (if k then 1 else 0), H, I.tok _, ⟨_, rfl⟩, q⟩
end
end L2

namespace L2
open PySem PySem.Spec PyProof.Rows

/-! ### an instance, its attributes a map -/
structure ObjM (h : Heap) (x dx C : Addr) (mA : Str → Option Value) : Prop where
  obj : h.get? x = some (PySem.W.instObj C dx)
  ns : h.Ns1 dx mA
  ne : dx ≠ x

theorem lookIn_ns {h : Heap} {dx : Addr} {mA : Str → Option Value} (n : h.Ns1 dx mA) : ∃ od, h.get? dx = some od ∧ ∀ name, PySem.W.lookIn name od = some (mA name) := by
  obtain ⟨o, es, ep, ho, hd, hk, _, hm⟩ := n
  refine ⟨o, ho, fun name => ?_⟩
  have e := hm name
  unfold nsFind findBy at e
  rw [← Array.find?_toList] at e
  unfold PySem.W.lookIn
  rw [hd]
  dsimp only
  split
  · rename_i y q
    rw [q] at e
    exact congrArg some e
  · rename_i q
    rw [q] at e
    have a : es.toList.any (·.refKey) = false := by
      rw [List.any_eq_false]
      intro y hy
      obtain ⟨z, t, hkey⟩ := hk y (Array.mem_toList_iff.mp hy)
      simp [DictEntry.refKey, hkey]
    have a' : ¬ es.toList.any (·.refKey) = true := by rw [a]; exact Bool.false_ne_true
    rw [if_neg a']
    exact congrArg some e

theorem ObjM.look {h : Heap} {x dx C : Addr} {mA : Str → Option Value} (I : ObjM h x dx C mA) : ∃ od, PySem.W.InstAt h x (PySem.W.instObj C dx) C (some od) ∧ ∀ name, PySem.W.lookIn name od = some (mA name) :=
  let ⟨od, ho, hl⟩ := lookIn_ns I.ns
  ⟨od, ⟨I.obj, rfl, rfl, ho⟩, hl⟩

section
variable {prog : Program} {w : World} {A : Around} {E : Value → Shared → Prop} {s : Shared} {K : PySem.W.Frag} {x dx C f : Addr} {mA : Str → Option Value} {name : Str} {v : Value}

end

/-! ### the attributes as a list of pairs -/
theorem RelO.some_of {v : V} {o : Option Value} (r : RelO (some v) o) : ∃ u, o = some u ∧ RelV v u := by
  cases o with
  | none => exact (show False from r).elim
  | some u => exact ⟨u, rfl, r⟩
section
variable {P : Program} {w : World} {H H' : Hp} {h h' : Heap} {a C dx : Addr} {fs fs' : List (Str × V)}
theorem ins_get (hok : HOk P w H h) (e : H a = some (.ins C dx fs)) : ∃ mA, ObjM h a dx C mA ∧ (∀ f, RelO (fs.lookup f) (mA f)) ∧ PySem.Within mA (fs.map (·.1)) ∧ fs.length ≤ 1000 ∧ H dx = some (.own a) := by
  obtain ⟨d, z, ne, ob, mA, n, r, q⟩ := (show ObjOk P w H h a (.ins C dx fs) from hok a _ e)
  exact ⟨mA, ⟨ob, n, ne⟩, r, q, z, d⟩
end

/-! ### what of the text a class must have -/
structure Cls (K : PySem.W.Frag) (C : Addr) : Prop where
  pg : PySem.W.plainGet K C Str.empty = true
  hd : PySem.W.hasDictIn K C = true
  po : PySem.W.plainOver K C = true
  sa : PySem.W.findIn K (.ref C) "__setattr__" = some (some (.builtin "object.__setattr__"))
theorem Cls.get {K : PySem.W.Frag} {C : Addr} (c : Cls K C) (f : Str) : PySem.W.plainGet K C f = true := c.pg
section
variable {X : Cx} {pins : List (Addr × Obj)} {σ : St} {H : Hp} {s : Shared} {a C dx : Addr} {fs : List (Str × V)} {f : Str} {v : V} {A : Around} {E : Value → Shared → Prop}

end

/-! ### readings and rules -/
section
variable {X : Cx} {o e value : Expr} {f : Str} {pos pos' tpos : Pos} {ta tv : TE}
end

/-! ### isinstance -/
section
variable {X : Cx} {pins : List (Addr × Obj)} {σ : St} {H : Hp} {s : Shared} {A : Around} {E : Value → Shared → Prop} {Q : Value → Shared → Prop} {c : Value} {b : Bool}
/-- the type of a value, as the fragment's deciders take it; for an instance its class -/
inductive TyOf (K : PySem.W.Frag) (H : Hp) : V → Value → Prop where
  | non : TyOf K H .non (.type "NoneType")
  | bl (x : Bool) : TyOf K H (.bl x) (.type "bool")
  | int (i : Int) : TyOf K H (.int i) (.type "int")
  | str (x : Str) : TyOf K H (.str x) (.type "str")
  | flt (x : UInt64) : TyOf K H (.flt x) (.type "float")
  | lst {a : Addr} {xs : List V} (e : H a = some (.lst xs)) : TyOf K H (.ref a) (.type "list")
  | frz {a : Addr} {o : Obj} {xs : List V} (e : H a = some (.frz o (.lst xs))) : TyOf K H (.ref a) (.type "list")
  | tup {a : Addr} {xs : List V} (e : H a = some (.tup xs)) : TyOf K H (.ref a) (.type "tuple")
  | dK {a : Addr} {kvs : List (Key × V)} (e : H a = some (.dK kvs)) : TyOf K H (.ref a) (.type "dict")
  | dT {a : Addr} {kvs : List (List Key × V)} (e : H a = some (.dT kvs)) : TyOf K H (.ref a) (.type "dict")
  | ins {a C dx : Addr} {fs : List (Str × V)} (e : H a = some (.ins C dx fs)) (cl : Cls K C) (ha : PySem.W.findIn K (.ref C) "__class__" = some (some (.builtin "object.__class__")))
      (hn : PySem.W.specialIn K (.builtin "object.__class__") "__get__" = some (some (.builtin "getset_descriptor.__get__"))) (htk : PySem.W.takesIn K (.builtin "object.__class__") = some true)
      (hm : PySem.W.mroIn K C (.type "object") = some true) : TyOf K H (.ref a) (.ref C)
/-- isinstance(x, c) for one class c, a built-in or an own one: kitOne's answer -/
theorem isinst_ok {x : V} {u t : Value} (I : Inv X pins σ H s) (rx : RelV x u) (ty : TyOf X.K H x t) (e : PySem.W.kitOne X.K t c = some b) (h : ∀ tk, Q (.bool b) { s with toks := tk }) :
    wpAny (model X.prog X.w) A (call (.builtin "isinstance") [u, c]) Q E s := by
  cases ty with
  | non => cases (show u = Value.none from rx); exact PySem.W.kia_one PySem.W.kitx_none I.kIn True.intro e (fun z => nomatch z) h
  | bl y => cases (show u = Value.bool y from rx); exact PySem.W.kia_one PySem.W.kitx_bool I.kIn True.intro e (fun z => nomatch z) h
  | int i => obtain ⟨t, q⟩ := (show ∃ t, u = Value.int i t from rx); cases q; exact PySem.W.kia_one PySem.W.kitx_int I.kIn True.intro e (fun z => nomatch z) h
  | str y => obtain ⟨t, q⟩ := (show ∃ t, u = Value.str y t from rx); cases q; exact PySem.W.kia_one PySem.W.kitx_str I.kIn True.intro e (fun z => nomatch z) h
  | flt y => obtain ⟨t, q⟩ := (show ∃ t, u = Value.float y t from rx); cases q; exact PySem.W.kia_one PySem.W.kitx_float I.kIn True.intro e (fun z => nomatch z) h
  | @lst a xs ea =>
    cases (show u = Value.ref a from rx)
    obtain ⟨_, _, n, _, h1⟩ := (show ObjOk X.prog X.w H s.heap a (.lst xs) from I.hok a _ ea)
    exact PySem.W.kia_one PySem.W.kitx_list I.kIn ⟨_, h1, rfl⟩ e (fun z => nomatch z) h
  | @frz a ob xs ea =>
    cases (show u = Value.ref a from rx)
    obtain ⟨_, _, _, n, _, h1⟩ := (show ObjOk X.prog X.w H s.heap a (.frz ob (.lst xs)) from I.hok a _ ea)
    exact PySem.W.kia_one PySem.W.kitx_list I.kIn ⟨_, h1, rfl⟩ e (fun z => nomatch z) h
  | @tup a xs ea =>
    cases (show u = Value.ref a from rx)
    obtain ⟨_, _, _, p⟩ := (show ObjOk X.prog X.w H s.heap a (.tup xs) from I.hok a _ ea)
    obtain ⟨o, h1, h2, _⟩ := p
    exact PySem.W.kia_one PySem.W.kitx_tuple I.kIn ⟨o, h1, h2⟩ e (fun z => nomatch z) h
  | @dK a kvs ea =>
    cases (show u = Value.ref a from rx)
    obtain ⟨_, _, vs, _, p⟩ := (show ObjOk X.prog X.w H s.heap a (.dK kvs) from I.hok a _ ea)
    obtain ⟨o, es, ep, h1, h2, _⟩ := p
    exact PySem.W.kia_one PySem.W.kitx_dict I.kIn ⟨o, h1, h2.1⟩ e (fun z => nomatch z) h
  | @dT a kvs ea =>
    cases (show u = Value.ref a from rx)
    obtain ⟨_, _, xs, _, o, es, ep, h1, h2, _⟩ := (show ObjOk X.prog X.w H s.heap a (.dT kvs) from I.hok a _ ea)
    exact PySem.W.kia_one PySem.W.kitx_dict I.kIn ⟨o, h1, h2.1⟩ e (fun z => nomatch z) h
  | @ins a C dx fs ea cl ha hn htk hm =>
    cases (show u = Value.ref a from rx)
    obtain ⟨mA, O, _⟩ := ins_get I.hok ea
    obtain ⟨od, J, _⟩ := O.look
    exact PySem.W.kia_one (PySem.W.kitx_own (cl.get _) cl.hd ha hn htk hm) I.kIn J e (fun z => nomatch z) h
end
end L2

namespace L2
open PySem PySem.Spec PyProof.Rows

/-! ### room -/
structure Room (k : Nat) (A : Around) : Prop where
  hd : A.handled = none
  dp : A.depth + 3 * k + 5 < recursionLimit
  un : A.units + 16 * k + 200 < cLine
  gd : A.guards = some []
theorem Room.mono {j k : Nat} {A : Around} (r : Room k A) (h : j ≤ k) : Room j A := ⟨r.hd, by have := r.dp; omega, by have := r.un; omega, r.gd⟩
theorem Room.deeper {k : Nat} {A : Around} (r : Room (k + 1) A) (env : Env) : Room k (A.deeper env) :=
  ⟨r.hd, by have := r.dp; show A.depth + 1 + 3 * k + 5 < _; omega, by have := r.un; show A.units + 3 + 16 * k + 200 < _; omega, r.gd⟩
theorem Room.depth {k : Nat} {A : Around} (r : Room k A) : A.depth < recursionLimit := by have := r.dp; omega
theorem Room.units {k : Nat} {A : Around} (r : Room k A) : A.units + 64 < cLine := by have := r.un; omega
/-! ### argument lists and displays -/
noncomputable def tNil : TA := fun _ H Q => Q [] H
noncomputable def tCons (ta : TE) (tr : TA) : TA := fun σ H Q => ta σ H fun x H1 => tr σ H1 fun xs H2 => Q (x :: xs) H2
section
variable {X : Cx} {e : Expr} {es : List Expr} {te : TE} {t : TA} {pos : Pos}
theorem pa_nil : PA X [] tNil := fun _ _ _ _ H Q I h => Calls.spliced_nil ⟨[], H, I, .nil, h⟩
theorem pa_cons (ha : PE X e te) (hr : PA X es t) (hs : starEach (e :: es) X.env = (false, eval e X.env) :: starEach es X.env := by rfl) : PA X (e :: es) (tCons te t) := by
  intro pos pins s σ H Q I h
  rw [hs]
  show wpAny _ _ (spliced ((false, eval e X.env) :: backTo pos (starEach es X.env))) _ _ s
  refine Calls.spliced_cons (thn (ha pins s σ H _ I h) fun u s1 ⟨x, H1, I1, r1, q1⟩ => ?_)
  exact thn (hr pos pins s1 σ H1 _ I1 q1) fun us s2 ⟨xs, H2, I2, r2, q2⟩ => ⟨x :: xs, H2, I2, .cons r1 r2, q2⟩

end

/-! ### what a def promises -/
/-- a def's promise: the bound arguments in the parameters' order, the heap, the wanted end, the wanted exception -/
noncomputable abbrev Sp := List V → Hp → VK → XK → Prop
/-- how an exception lies behind a call (file 08 gives it): the callers' frames, abstract heap and state ahead of the call, the wish, the exception, the state -/
noncomputable abbrev CXT := List Env → Hp → Shared → XK → Value → Shared → Prop

/-- the state at a call -/
structure Env0 (P : Program) (w : World) (K : PySem.W.Frag) (mg : Str → Option Value) (base : Heap) (A : Around) (outer : List Env) (s : Shared) (H : Hp) : Prop where
  frames : A.frames = some outer
  mod : Mod K mg base
  bs : ∀ b o, base.get? b = some o → s.heap.get? b = some o ∧ H b = none
  bsz : base.objs.size ≤ s.heap.objs.size
  funs : s.heap.FunFrames base outer
  frf : ∀ b ∈ frs outer, H b = none
  hok : HOk P w H s.heap
  bare : AllBare s.gens
/-- a call's end -/
noncomputable def CE (outer : List Env) (P : Program) (w : World) (H : Hp) (s : Shared) (Q : VK) (u : Value) (s' : Shared) : Prop :=
  ∃ v H', s'.os = s.os ∧ AllBare s'.gens ∧ Un (frs outer) [] H H' s.heap s'.heap ∧ HOk P w H' s'.heap ∧ RelV v u ∧ Q v H'
noncomputable def CR (CX : CXT) (outer : List Env) (P : Program) (w : World) (H : Hp) (s : Shared) (Q : VK) (E : XK) (r : Result) (s' : Shared) : Prop :=
  match r with
  | .ok (.ret u) => CE outer P w H s Q u s'
  | .ok _ => False
  | .error e => CX outer H s E e s'
structure FnOk (P : Program) (w : World) (K : PySem.W.Frag) (mg : Str → Option Value) (base : Heap) (CX : CXT) (k : Nat) (f : Addr) (fd : FuncData) (ps : List Str) (sp : Sp) : Prop where
  len : ∀ vs H Q E, sp vs H Q E → vs.length = ps.length
  run : ∀ (A : Around) (outer : List Env) (s : Shared) (H : Hp) (args : Args) (us : List Value) (vs : List V) (Q : VK) (E : XK), Room k A → Env0 P w K mg base A outer s H → BindsTo s fd args (ps.zip us) → Vals vs us → sp vs H Q E →
    codeAny (model P w) A (.call (.ref f) args) (CR CX outer P w H s Q E) s
theorem FnOk.mono {P : Program} {w : World} {K : PySem.W.Frag} {mg : Str → Option Value} {base : Heap} {CX : CXT} {j k : Nat} {f : Addr} {fd : FuncData} {ps : List Str} {sp : Sp} (F : FnOk P w K mg base CX j f fd ps sp) (h : j ≤ k) :
    FnOk P w K mg base CX k f fd ps sp := ⟨F.len, fun A outer s H args us vs Q E hr => F.run A outer s H args us vs Q E (hr.mono h)⟩
section
variable {X : Cx} {pins : List (Addr × Obj)} {σ : St} {H : Hp} {s s' : Shared}
/-- from a body: what a callee wants -/
theorem Inv.env0 (I : Inv X pins σ H s) : Env0 X.prog X.w X.K X.mg X.base X.A X.stack s H :=
  ⟨I.ok.frames, I.ok.mod, I.bs, Nat.le_trans I.ok.bsz I.sz, I.stack, I.stkFree, I.hok, I.bare⟩
/-- behind a call -/
theorem Inv.after {Q : VK} {u : Value} (I : Inv X pins σ H s) (h : CE X.stack X.prog X.w H s Q u s') : EP X pins σ Q u s' := by
  obtain ⟨v, H', os, bare, un, hok, r, q⟩ := h
  obtain ⟨hh, g, d, t, os'⟩ := s'
  obtain rfl : os' = s.os := os
  exact ⟨v, H', I.call (h' := hh) (g' := g) (d' := d) (t' := t) (ch := []) un hok bare (fun b z => absurd z (by simp)), r, q⟩
end

/-! ### calls -/
/-- f(..): the written arguments, then the defaults dvs; E: what is wanted of an exception -/
noncomputable def tCall (sp : Sp) (dvs : List V) (E : XK) (t : TA) : TE := fun σ H Q => t σ H fun vs H1 => sp (vs ++ dvs) H1 Q E
/-- how the parameters are bound: us the positional arguments, kw the keywords' values by name, ds the defaults that fill up -/
noncomputable def Binds (K : PySem.W.Frag) (fd : FuncData) (ps : List Str) (ds : List Value) : Prop :=
  ∀ (s : Shared) (us : List Value), K.In s.heap → (us ++ ds).length = ps.length → BindsTo s fd ⟨us, []⟩ (ps.zip (us ++ ds))
/-- every parameter is given -/
theorem Binds.all {K : PySem.W.Frag} {fd : FuncData} {ps : List Str} (h : ∀ us : List Value, us.length = ps.length → bindArgs fd ⟨us, []⟩ = pure (ps.zip us)) : Binds K fd ps [] := fun s us _ hl => by
  rw [List.append_nil] at hl ⊢
  exact .of_eq (h us hl)

/-- an exception of a callee reaches what this body wants of exceptions -/
noncomputable def Passes (CX : CXT) (X : Cx) (E : XK) : Prop := ∀ (pins : List (Addr × Obj)) (σ : St) (H : Hp) (s : Shared) (e : Value) (s' : Shared), Inv X pins σ H s → CX X.stack H s E e s' → X.xe e s'

section
variable {X : Cx} {CX : CXT} {k : Nat} {f C : Addr} {fd : FuncData} {ps : List Str} {sp : Sp} {dvs : List V} {ds : List Value} {E : XK} {x m : Str} {p pos apos : Pos} {e o : Expr} {es : List Expr} {ta : TE} {t : TA}

/-- the callee runs -/
theorem run_fn {pins : List (Addr × Obj)} {σ : St} {H : Hp} {s : Shared} {Q : VK} {us : List Value} {vs : List V} (F : FnOk X.prog X.w X.K X.mg X.base CX k f fd ps sp) (hr : Room k X.A) (hb : Binds X.K fd ps ds) (hd : Vals dvs ds) (hx : Passes CX X E)
    (I : Inv X pins σ H s) (r : Vals vs us) (h : sp (vs ++ dvs) H Q E) : wpAny (model X.prog X.w) X.A (call (.ref f) us) (EP X pins σ Q) X.xe s := by
  have r2 : Vals (vs ++ dvs) (us ++ ds) := r.append hd
  have hl : (us ++ ds).length = ps.length := by rw [← r2.length]; exact F.len _ _ _ _ h
  refine wpAny_call (codeAny_mono (F.run X.A X.stack s H ⟨us, []⟩ (us ++ ds) (vs ++ dvs) Q E hr I.env0 (hb s us I.kIn hl) r2 h) fun r s' hq => ?_)
  cases r with
  | error e => exact hx pins σ H s e s' I hq
  | ok fl =>
    cases fl with
    | ret u => exact I.after hq
    | next => exact False.elim hq
    | brk => exact False.elim hq
    | cont => exact False.elim hq

theorem pe_call (F : FnOk X.prog X.w X.K X.mg X.base CX k f fd ps sp) (hr : Room k X.A) (hg : Gl X x) (hm : X.mg x = some (.ref f)) (hk : PySem.W.keepIn X.K (.ref f) = true) (hb : Binds X.K fd ps ds) (hd : Vals dvs ds) (hx : Passes CX X E)
    (ha : PA X (e :: es) t) (hdb : (x == ("__debug__" : Str)) = false := by decide) (he : starEach (e :: es) X.env = (false, eval e X.env) :: starEach es X.env := by rfl) (hpl : (backTo pos (starEach es X.env)).any (·.1) = false := by rfl) :
    PE X (.Call (.Name x p) (e :: es) [] pos) (tCall sp dvs E t) := by
  intro pins s σ H Q I h
  refine wpAny_Call_Name_kw (ld_glob I hg hm ?_ hdb)
  refine PySem.W.callWith_K (h₀ := X.base) I.ok.mod.kin hk (thn (ha pos pins s σ H _ I h) fun us s1 ⟨vs, H1, I1, r, q⟩ => ⟨I1.kIn, ?_⟩) he hpl
  exact run_fn F hr hb hd hx I1 r q
end

/-! ### keywords -/
section
variable {X : Cx} {CX : CXT} {k : Nat} {f C : Addr} {fd : FuncData} {ps ks : List Str} {sp : Sp} {E : XK} {x m : Str} {p pos apos kpos : Pos} {e o : Expr} {es : List Expr} {kws : List Keyword} {te ta : TE} {t tk : TA} {nm : Option Str}
variable {g : List Value → List Value → List Value} {gV : List V → List V → List V}
end

/-! ### a def's body keeps its promise -/
/-- names: the parameters first -/
structure FnScope (N P : List Str) (sc : Scope) : Prop where
  kind : sc.kind = .function
  co : sc.isCoroutine = false
  gen : sc.isGenerator = false
  nd : N.Nodup
  pre : N.take P.length = P
  par : ∀ x ∈ P, sc.names.lookup x = some .local ∨ sc.names.lookup x = some .cell
  nofree : ∀ y ∈ sc.names, y.2 ≠ .free

theorem bindL_out {kindOf : Str → Option NameKind} {x : Str} : ∀ {binds : List (Str × Value)} {m : Str → Option Value}, (∀ v, (x, v) ∉ binds) → bindL kindOf binds m x = m x
  | [], _, _ => rfl
  | (n, v) :: r, m, h => by
    unfold bindL
    rw [bindL_out fun w hw => h w (List.mem_cons_of_mem _ hw)]
    split
    · have : x ≠ n := by rintro rfl; exact h v List.mem_cons_self
      simp [this]
    · rfl
theorem bindC_out {kindOf : Str → Option NameKind} {x : Str} : ∀ {binds : List (Str × Value)} {m : Str → Option Value}, (∀ v, (x, v) ∉ binds) → bindC kindOf binds m x = m x
  | [], _, _ => rfl
  | (n, v) :: r, m, h => by
    unfold bindC
    rw [bindC_out fun w hw => h w (List.mem_cons_of_mem _ hw)]
    split
    · rfl
    · have : x ≠ n := by rintro rfl; exact h v List.mem_cons_self
      simp [this]
theorem bindL_get {kindOf : Str → Option NameKind} {x : Str} {v : Value} : ∀ {P : List Str} {vs : List Value} {i : Nat} {m : Str → Option Value}, P.Nodup → P[i]? = some x → vs[i]? = some v → kindOf x = some .local →
    bindL kindOf (P.zip vs) m x = some v
  | [], _, _, _, _, h, _, _ => by simp at h
  | _ :: _, [], _, _, _, _, h, _ => by simp at h
  | p :: P, w :: vs, 0, m, nd, h1, h2, hk => by
    simp at h1 h2; subst h1; subst h2
    show bindL kindOf ((p, w) :: P.zip vs) m p = _
    unfold bindL
    rw [bindL_out fun v hv => (List.nodup_cons.mp nd).1 (List.of_mem_zip hv).1, if_pos hk]
    simp
  | p :: P, w :: vs, i + 1, m, nd, h1, h2, hk => by
    show bindL kindOf ((p, w) :: P.zip vs) m x = _
    unfold bindL
    exact bindL_get (i := i) (List.nodup_cons.mp nd).2 (by simpa using h1) (by simpa using h2) hk
theorem bindC_get {kindOf : Str → Option NameKind} {x : Str} {v : Value} : ∀ {P : List Str} {vs : List Value} {i : Nat} {m : Str → Option Value}, P.Nodup → P[i]? = some x → vs[i]? = some v → kindOf x ≠ some .local →
    bindC kindOf (P.zip vs) m x = some v
  | [], _, _, _, _, h, _, _ => by simp at h
  | _ :: _, [], _, _, _, _, h, _ => by simp at h
  | p :: P, w :: vs, 0, m, nd, h1, h2, hk => by
    simp at h1 h2; subst h1; subst h2
    show bindC kindOf ((p, w) :: P.zip vs) m p = _
    unfold bindC
    rw [bindC_out fun v hv => (List.nodup_cons.mp nd).1 (List.of_mem_zip hv).1, if_neg hk]
    simp
  | p :: P, w :: vs, i + 1, m, nd, h1, h2, hk => by
    show bindC kindOf ((p, w) :: P.zip vs) m x = _
    unfold bindC
    exact bindC_get (i := i) (List.nodup_cons.mp nd).2 (by simpa using h1) (by simpa using h2) hk

/-- the names' values at the entry -/
noncomputable def start (N : List Str) (vs : List V) : St := vs.map some ++ List.replicate (N.length - vs.length) none

/-- the context of a def's body, at its entry; an exception leaves the frame, then lies as CX says -/
noncomputable def cxOf (CX : CXT) (P : Program) (w : World) (K : PySem.W.Frag) (mg : Str → Option Value) (base : Heap) (N : List Str) (qual : Str) (scope : Scope) (f : Addr) (cd : Value) (A : Around) (outer : List Env) (s : Shared) (H : Hp) (E : XK) : Cx where
  prog := P
  w := w
  K := K
  mg := mg
  base := base
  A := A.deeper (envOfC qual scope s.heap.objs.size f cd)
  N := N
  s₀ := s
  H₀ := H
  env := envOfC qual scope s.heap.objs.size f cd
  outer := outer
  stack := envOfC qual scope s.heap.objs.size f cd :: outer
  ex := []
  calm := true
  fn := fun _ => true
  pn := []
  xe := fun e s' => wpAny (model P w) (A.deeper (envOfC qual scope s.heap.objs.size f cd)) (leaving (envOfC qual scope s.heap.objs.size f cd) e) (fun _ s'' => CX outer H s E e s'') (fun e' s'' => CX outer H s E e' s'') s'

theorem cell_has {sc : Scope} {n : Nat} {x : Str} (h : sc.names.lookup x = some .cell) : ∃ c, (cellsFrom n sc.names []).lookup x = some c := by
  have q := PySem.W.cellsFrom_some sc.names n [] (.inl h)
  exact Option.isSome_iff_exists.mp q

theorem inv_start {CX : CXT} {P : Program} {w : World} {K : PySem.W.Frag} {mg : Str → Option Value} {base : Heap} {N ps : List Str} {qual : Str} {scope : Scope} {f : Addr} {cd : Value} {A : Around} {outer : List Env} {s s1 : Shared} {H : Hp} {E : XK} {us : List Value} {vs : List V}
    (S : FnScope N ps scope) (hd : A.handled = none) (e0 : Env0 P w K mg base A outer s H) (hl : vs.length = ps.length) (r : Vals vs us)
    (x : InCallC s s.heap.objs.size (bindL (envOfC qual scope s.heap.objs.size f cd).kindOf (ps.zip us) fun _ => none) (cellsFrom (s.heap.objs.size + 1) scope.names []) (bindC (envOfC qual scope s.heap.objs.size f cd).kindOf (ps.zip us) fun _ => none) s1) :
    Inv (cxOf CX P w K mg base N qual scope f cd A outer s H E) [] (start N vs) H s1 := by
  have hpl : ps.length ≤ N.length := by have := congrArg List.length S.pre; rw [List.length_take] at this; omega
  obtain ⟨h1, tk, rfl, hk⟩ := x.done
  have noA : ∀ b : Addr, b ∉ (cxOf CX P w K mg base N qual scope f cd A outer s H E).ex := fun b z => absurd (show b ∈ ([] : List Addr) from z) (by simp)
  refine ⟨⟨e0.mod, S.kind, rfl, rfl, Nat.le_refl _, fun y z c h1 h2 => ?_, fun y hy => ?_, fun y c _ h => ?_, fun _ => hd, Around.frames_deeper e0.frames, .inr ⟨rfl, rfl⟩, fun b z => absurd z (noA b), e0.bs, e0.bsz, fun b _ _ => noA b, fun b z => absurd z (noA b), e0.funs, e0.frf⟩,
    rfl, e0.bare, Un.kept hk, ⟨_, x.toInCall.ns, fun i y v h1 h2 h3 => ?_⟩, fun y c h => ⟨_, x.cell y c h⟩, e0.hok.fresh (Nat.le_refl _), fun y c h => ?_, fun p hp => absurd (show p ∈ ([] : List (Addr × Obj)) from hp) (by simp), e0.hok.kept hk, ?_⟩
  · exact name_of_addr x.apart (PySem.mem_of_lookup h1) (PySem.mem_of_lookup h2)
  · have hy : scope.names.lookup y = some .cell ∨ scope.names.lookup y = some .free := hy
    rcases hy with hy | hy
    · exact cell_has hy
    · exact absurd rfl (S.nofree _ (PySem.mem_of_lookup hy))
  · exact Nat.le_of_lt (x.above y c (PySem.mem_of_lookup h))
  · have hi : i < vs.length := by
      unfold start at h2
      by_cases hi : i < vs.length
      · exact hi
      · rw [List.getElem?_append_right (by simpa using hi)] at h2
        rw [List.getElem?_replicate] at h2
        split at h2 <;> cases h2
    have ha : vs[i]? = some v := by
      unfold start at h2
      rw [List.getElem?_append_left (by simpa using hi), List.getElem?_map] at h2
      cases e : vs[i]? with
      | none => rw [e] at h2; cases h2
      | some a => rw [e] at h2; cases h2; rfl
    obtain ⟨u, hu, rv⟩ := r.get ha
    have hp : ps[i]? = some y := by
      rw [← S.pre, List.getElem?_take_of_lt (by omega)]; exact h1
    have ndP : ps.Nodup := by rw [← S.pre]; exact S.nd.sublist (List.take_sublist _ _)
    refine ⟨u, rv, ?_⟩
    rcases S.par y (List.mem_of_getElem? hp) with k | k
    · exact .inl ⟨k, bindL_get ndP hp hu k⟩
    · obtain ⟨c, e⟩ := cell_has (n := s.heap.objs.size + 1) k
      refine .inr ⟨.inl k, c, e, ?_⟩
      have q := x.cell y c e
      rw [bindC_get ndP hp hu (by show scope.names.lookup y ≠ _; rw [k]; decide)] at q
      exact q
  · exact e0.hok.fresh (Nat.le_of_lt (x.above y c (PySem.mem_of_lookup h)))
  · unfold start
    show _ = N.length
    rw [List.length_append, List.length_map, List.length_replicate]
    omega

/-- THE RULE: a def (or a method) of the text, by its body. The body's reading t is chosen for each entry; it is run at the parameters' values -/
theorem fn_of {CX : CXT} {P : Program} {w : World} {K : PySem.W.Frag} {mg : Str → Option Value} {base : Heap} {k : Nat} {f : Addr} {name qual : Str} {params : Arguments} {body : List Stmt} {scope : Scope} {dV kV doc pm cdv ct oc : Value} {an od : Option Addr}
    {osl : Array (Option Value)} {N ps : List Str} {sp : Sp} (lk : K.lookup f = some ⟨oc, od, .func (PySem.W.fnOf name qual params body scope dV kV doc pm an cdv ct), osl⟩) (hcd : PySem.W.codeIn K cdv qual = true) (S : FnScope N ps scope)
    (len : ∀ vs H Q E, sp vs H Q E → vs.length = ps.length)
    (hbody : ∀ (A : Around) (outer : List Env) (s : Shared) (H : Hp) (vs : List V) (Q : VK) (E : XK), Room k (A.deeper (envOfC qual scope s.heap.objs.size f cdv)) → sp vs H Q E →
      ∃ t, PSs (cxOf CX P w K mg base N qual scope f cdv A outer s H E) body t ∧ t { nx := fun _ H' => Q .non H', rt := Q } (start N vs) H) :
    FnOk P w K mg base CX (k + 1) f (PySem.W.fnOf name qual params body scope dV kV doc pm an cdv ct) ps sp := by
  refine ⟨len, fun A outer s H args us vs Q E hr e0 hb r hsp => ?_⟩
  have hl := len _ _ _ _ hsp
  have KX : K.In s.heap := e0.mod.kin.keeps fun b o e => (e0.bs b o e).1
  have lim : s.heap.NoLimit := e0.mod.nolimit.keeps fun b o e => (e0.bs b o e).1
  have hkind : ∀ y ∈ ps.zip us, scope.names.lookup y.1 = some .local ∨ (scope.names.lookup y.1 = some .cell ∧ ((cellsFrom (s.heap.objs.size + 1) scope.names []).lookup y.1).isSome = true) := fun ⟨n, v⟩ hy => by
    rcases S.par n (List.of_mem_zip hy).1 with q | q
    · exact .inl q
    · exact .inr ⟨q, PySem.W.cellsFrom_some _ _ _ (.inl q)⟩
  refine codeAny_call_function hr.depth (KX _ _ lk) rfl S.co S.gen rfl (PySem.W.codeRec_of KX hcd) (hb _ _ _ _ ?_)
  refine wpAny_newFunctionEnv_cells S.kind hkind fun env he s1 x => ?_
  subst he
  refine ⟨lim.keeps x.toInCall.keep, codeAny_func ?_⟩
  obtain ⟨t, ht, hq⟩ := hbody A outer s H vs Q E (hr.deeper _) hsp
  have I : Inv (cxOf CX P w K mg base N qual scope f cdv A outer s H E) [] (start N vs) H s1 := inv_start S hr.hd e0 hl r x
  refine wpAny_mono (ht [] s1 (start N vs) H _ I hq) (fun fl s' hs => ?_) fun e s' hs => hs
  have fin : ∀ {σ' : St} {H' : Hp} {v : V} {u : Value}, Inv (cxOf CX P w K mg base N qual scope f cdv A outer s H E) [] σ' H' s' → RelV v u → Q v H' → CE outer P w H s Q u s' :=
    fun {σ' H' v u} J rv q => ⟨v, H', J.os, J.bare, J.base, J.hok, rv, q⟩
  cases fl with
  | ret u =>
    obtain ⟨v, σ', H', J, rv, q⟩ := hs
    exact fin J rv q
  | next =>
    obtain ⟨σ', H', J, q⟩ := hs
    exact fin (v := V.non) (u := Value.none) J rfl q
  | brk =>
    obtain ⟨_, _, _, q⟩ := hs
    exact False.elim q
  | cont =>
    obtain ⟨_, _, _, q⟩ := hs
    exact False.elim q
end L2

namespace L2
open PySem PySem.Spec PyProof.Rows
section
variable {X : Cx} {x : Str} {p pos : Pos} {e : Expr} {es : List Expr} {t : TA} {id T : String} {r : List V → Hp → VK → Prop}

noncomputable def tCB (r : List V → Hp → VK → Prop) (t : TA) : TE := fun σ H Q => t σ H fun vs H1 => r vs H1 Q
/-- f(e, ..), f a built-in function -/
theorem pe_callB (hc : CallR X (.builtin id) r) (hg : Gl X x) (hm : X.mg x = none) (hv : bootBuiltins x = some (.builtin id)) (ha : PA X (e :: es) t) (hn : x ≠ "__name__" := by decide) (hdb : (x == ("__debug__" : Str)) = false := by decide)
    (he : starEach (e :: es) X.env = (false, eval e X.env) :: starEach es X.env := by rfl) (hpl : (backTo pos (starEach es X.env)).any (·.1) = false := by rfl) : PE X (.Call (.Name x p) (e :: es) [] pos) (tCB r t) := by
  intro pins s σ H Q I h
  refine wpAny_Call_Name_kw (ld_blt I hg hm hv ?_ hn hdb)
  exact PyProof.Rows.callWith_builtin1 (thn (ha pos pins s σ H _ I h) fun us s1 ⟨vs, H1, I1, r1, q1⟩ => hc pins s1 σ H1 vs us Q I1 r1 q1) he hpl
/-- T(e, ..), T a built-in type -/
theorem pe_callTy (hc : CallR X (.type T) r) (hg : Gl X x) (hm : X.mg x = none) (hv : bootBuiltins x = some (.type T)) (ha : PA X (e :: es) t) (hn : x ≠ "__name__" := by decide) (hdb : (x == ("__debug__" : Str)) = false := by decide)
    (he : starEach (e :: es) X.env = (false, eval e X.env) :: starEach es X.env := by rfl) (hpl : (backTo pos (starEach es X.env)).any (·.1) = false := by rfl) : PE X (.Call (.Name x p) (e :: es) [] pos) (tCB r t) := by
  intro pins s σ H Q I h
  refine wpAny_Call_Name_kw (ld_blt I hg hm hv ?_ hn hdb)
  exact PyProof.Rows.callWith_type1 (thn (ha pos pins s σ H _ I h) fun us s1 ⟨vs, H1, I1, r1, q1⟩ => hc pins s1 σ H1 vs us Q I1 r1 q1) he hpl
end
end L2

namespace HT
open PySem PyProof.Rows

section
open PySem.SeqAt
open PySem.AutoSeq1 (wpAny_loadPart')
open PySem.MeetsSeq PySem.MeetsSeq2 PySem.MeetsSeq3

end

section
variable {prog : Program} {w : World} {A : Around} {E : Value → Shared → Prop} {s : Shared}

/-! ### t[a:b], not the whole -/
/-- a slice's bound as a place among n (d where it is left out) -/
noncomputable def sIx (n d : Nat) : Option Int → Nat
  | none => d
  | some v => if v < 0 then (v + (n : Int)).toNat else min v.toNat n
theorem sIx_le (n d : Nat) (hd : d ≤ n) (o : Option Int) : sIx n d o ≤ n := by
  cases o with
  | none => exact hd
  | some v =>
    show (if v < 0 then (v + (n : Int)).toNat else min v.toNat n) ≤ n
    by_cases hv : v < 0
    · rw [if_pos hv]; omega
    · rw [if_neg hv]; exact Nat.min_le_right _ _
theorem clip_eq (v : Int) (n d : Nat) : (if v < 0 then max (v + (n : Int)) 0 else min v (n : Int)) = ((sIx n d (some v) : Nat) : Int) := by
  show (if v < 0 then max (v + (n : Int)) 0 else min v (n : Int)) = (((if v < 0 then (v + (n : Int)).toNat else min v.toNat n) : Nat) : Int)
  by_cases hv : v < 0
  · simp only [if_pos hv]; omega
  · simp only [if_neg hv]; omega
theorem adjust_gen (lo hi : Option Int) (n : Nat) : Builtin.Slice.sliceAdjust lo hi 1 (n : Int) = (((sIx n 0 lo : Nat) : Int), ((sIx n n hi : Nat) : Int)) := by
  have h1 : ¬ ((1 : Int) < 0) := by omega
  unfold Builtin.Slice.sliceAdjust
  simp only [h1, if_false]
  refine Prod.ext ?_ ?_
  · cases lo with
    | none => rfl
    | some v => exact clip_eq v n 0
  · cases hi with
    | none => rfl
    | some v => exact clip_eq v n n
theorem places_gen (i j : Nat) : Builtin.Slice.slicePlaces (i : Int) (j : Int) 1 = j - i := by
  unfold Builtin.Slice.slicePlaces
  have h1 : (1 : Int) > 0 := by omega
  simp only [h1, if_true, Int.ediv_one]
  split <;> omega
theorem slicePart_ {v : Value} {o : Option Int} {Q : Option Int → Shared → Prop} (p : IsPart v o) (h : Q o s) : wpAny (model prog w) A (Builtin.Slice.slicePartIndex v) Q E s := by
  cases p with
  | none => exact slicePart_none h
  | int i t => exact slicePart_int h
theorem sliceApplied_gen {sl : Addr} {vl vu : Value} {lo hi : Option Int} {n : Nat} {Q : Int × Int × Nat → Shared → Prop} (hs : s.heap.IsSliceOf sl vl vu .none) (pl : IsPart vl lo) (pu : IsPart vu hi)
    (h : Q (((sIx n 0 lo : Nat) : Int), 1, sIx n n hi - sIx n 0 lo) s) : wpAny (model prog w) A (Builtin.Slice.sliceApplied (.ref sl) (pure (n : Int))) Q E s := by
  obtain ⟨os, hos, hcs, hds⟩ := id hs
  unfold Builtin.Slice.sliceApplied Builtin.Slice.sliceFields
  refine wpAny_bind (wpAny_bind (wpAny_field hos hds (x := vl) rfl (wpAny_bind (wpAny_field hos hds (x := vu) rfl (wpAny_bind (wpAny_field hos hds (x := .none) rfl (wpAny_pure ?_)))))))
  refine wpAny_bind (slicePart_none ?_)
  show wpAny _ _ (if ((1 : Int) == 0) = true then _ else _) _ _ s
  rw [if_neg (by decide)]
  refine wpAny_bind (slicePart_ pl (wpAny_bind (slicePart_ pu (wpAny_bind (wpAny_pure ?_)))))
  show wpAny _ _ (match Builtin.Slice.sliceAdjust lo hi 1 (n : Int) with | (lo, hi) => pure (lo, (1 : Int), Builtin.Slice.slicePlaces lo hi 1)) _ _ s
  rw [adjust_gen lo hi n]
  show wpAny _ _ (pure (((sIx n 0 lo : Nat) : Int), (1 : Int), Builtin.Slice.slicePlaces ((sIx n 0 lo : Nat) : Int) ((sIx n n hi : Nat) : Int) 1)) _ _ s
  rw [places_gen]
  exact wpAny_pure h
theorem pick_gen (xs : Array Value) (i k : Nat) : ((List.range k).filterMap fun (m : Nat) => xs[((i : Int) + (m : Int) * 1).toNat]?).toArray = ((xs.toList.drop i).take k).toArray := by
  have e : (fun (m : Nat) => xs[((i : Int) + (m : Int) * 1).toNat]?) = fun m => xs[i + m]? := by
    funext m
    have : ((i : Int) + (m : Int) * 1).toNat = i + m := by omega
    rw [this]
  rw [e]
  have := pick_run xs i k
  rw [List.filterMap_map] at this
  have e2 : ((fun x => xs[x]?) ∘ fun x => i + x) = fun m => xs[i + m]? := rfl
  rw [e2] at this
  rw [this]

theorem getItem_tuple_cut {t sl : Addr} {items : Array Value} {vl vu : Value} {lo hi : Option Int} {Q : Value → Shared → Prop} (ht : IsTup s.heap t items) (hs : s.heap.IsSliceOf sl vl vu .none) (pl : IsPart vl lo) (pu : IsPart vu hi)
    (hw : ¬ (sIx items.size 0 lo = 0 ∧ sIx items.size items.size hi = items.size))
    (h : Q (.ref s.heap.objs.size) { s with heap := s.heap.push { cls := .type "tuple", data := .seq ((items.toList.drop (sIx items.size 0 lo)).take (sIx items.size items.size hi - sIx items.size 0 lo)).toArray } })
    (hsz : items.size ≤ sizeLine) : wpAny (model prog w) A (getItem (.ref t) (.ref sl)) Q E s := by
  have htake : sizeOk (.seq ((items.toList.drop (sIx items.size 0 lo)).take (sIx items.size items.size hi - sIx items.size 0 lo)).toArray) := by
    show ((items.toList.drop (sIx items.size 0 lo)).take (sIx items.size items.size hi - sIx items.size 0 lo)).toArray.size ≤ sizeLine
    rw [List.size_toArray, List.length_take, List.length_drop, Array.length_toList]
    omega
  have hj : sIx items.size items.size hi ≤ items.size := sIx_le _ _ (Nat.le_refl _) hi
  obtain ⟨os, hos, hcs, hds⟩ := id hs
  have hTs : s.TypeIs (.ref sl) "slice" := ⟨os, hos, hcs⟩
  unfold getItem
  try with_reducible refine wpAny_holding ?_
  first | refine wpAny_bind (wpAny_pure ?_) | skip
  refine wpAny_bind (wpAny_sequenceKey ht.typeIs (by decide) ?_)
  refine wpAny_bind (wpAny_callSpecial?_slot (name := Str.ofString "__getitem__") ht.typeIs PyProof.Rows.slot_tuple_getitem
    (wpAny_call_entry PyProof.Rows.slot_tuple_getitem ht.typeIs entry_tuple_getitem ?_ (args_tuple_getitem _ _)))
  show wpAny _ _ (Builtin.Tuple.tupleItemsOf (.ref t) >>= _) _ _ s
  refine wpAny_bind (tupleItemsOf_ ht ?_)
  refine wpAny_bind (wpAny_typeOf hTs ?_)
  rw [if_pos (by decide)]
  refine wpAny_bind (sliceApplied_gen hs pl pu ?_)
  have hno : ¬ ((((sIx items.size 0 lo : Nat) : Int) == 0 && (1 : Int) == 1 && (sIx items.size items.size hi - sIx items.size 0 lo) == items.size) = true) := by
    intro q
    rw [Bool.and_eq_true, Bool.and_eq_true] at q
    have q1 : ((sIx items.size 0 lo : Nat) : Int) = 0 := eq_of_beq q.1.1
    have q2 : sIx items.size items.size hi - sIx items.size 0 lo = items.size := eq_of_beq q.2
    exact hw ⟨by omega, by omega⟩
  show wpAny _ _ (if (((sIx items.size 0 lo : Nat) : Int) == 0 && (1 : Int) == 1 && (sIx items.size items.size hi - sIx items.size 0 lo) == items.size) = true then _ else _) _ _ s
  rw [if_neg hno, pick_gen]
  first
    | exact wpAny_bind (m := Builtin.Tuple.tupleExact _) (wpAny_newObj_type (wpAny_pure ⟨_, rfl, wpAny_pure h⟩) htake)
    | exact wpAny_bind (m := Builtin.Tuple.tupleExact _) (wpAny_newObj_type (wpAny_bind (wpAny_pure (wpAny_pure ⟨_, rfl, wpAny_pure h⟩))) htake)
    | exact wpAny_bind (wpAny_bind (m := Builtin.Tuple.tupleExact _) (wpAny_newObj_type (wpAny_pure (wpAny_pure ⟨_, rfl, wpAny_pure h⟩)) htake))
    | exact wpAny_bind (wpAny_bind (m := Builtin.Tuple.tupleExact _) (wpAny_newObj_type (wpAny_pure ⟨_, rfl, wpAny_pure h⟩) htake))
end
end HT

namespace L2
open PySem PySem.Spec PyProof.Rows

/-! ### the parts of a slice -/
noncomputable abbrev TO := St → Hp → (Option Int → Hp → Prop) → Prop
/-- a slice's part (left out, or an int) -/
noncomputable def PO (X : Cx) (e : Option Expr) (t : TO) : Prop :=
  ∀ (pins : List (Addr × Obj)) (s : Shared) (σ : St) (H : Hp) (Q : Option Int → Hp → Prop), Inv X pins σ H s → t σ H Q →
    wpAny (model X.prog X.w) X.A (evalPart e X.env) (fun u s' => ∃ o H', Inv X pins σ H' s' ∧ IsPart u o ∧ Q o H') X.xe s
noncomputable def tNoPart : TO := fun _ H Q => Q none H
theorem intsAre_of {ns : List Int} : ∀ {us : List Value}, Vals (ns.map V.int) us → IntsAre us ns := by
  induction ns with
  | nil => intro us r; rw [List.map_nil] at r; cases r; exact .nil
  | cons n ns ih =>
    intro us r
    rw [List.map_cons] at r
    cases r with
    | cons r1 r2 =>
      obtain ⟨t, e⟩ := r1
      subst e
      exact .cons n t (ih r2)

section
variable {X : Cx} {e : Expr} {te : TE} {lo hi : Option Expr} {tl th : TO} {pos p2 : Pos}

theorem po_none : PO X none tNoPart := by
  intro pins s σ H Q I h
  rw [evalPart_none]
  exact wpAny_pure ⟨none, H, I, .none, h⟩
/-- what a slice of a value is, by values: the slice object stands at sl -/
noncomputable def SlR (X : Cx) (r : V → Option Int → Option Int → Hp → VK → Prop) : Prop :=
  ∀ (pins : List (Addr × Obj)) (s : Shared) (σ : St) (H : Hp) (x : V) (v vl vu : Value) (lo hi : Option Int) (sl : Addr) (Q : VK), Inv X pins σ H s → RelV x v → s.heap.IsSliceOf sl vl vu .none → IsPart vl lo → IsPart vu hi → r x lo hi H Q →
    ∃ T id, typeLookup (.type T) "__getitem__" = pure (some (.builtin id)) ∧ s.TypeIs v T ∧ wpAny (model X.prog X.w) X.A (getItem v (.ref sl)) (EP X pins σ Q) X.xe s
noncomputable def tSl (r : V → Option Int → Option Int → Hp → VK → Prop) (te : TE) (tl th : TO) : TE := fun σ H Q => te σ H fun x H1 => tl σ H1 fun l H2 => th σ H2 fun u H3 => r x l u H3 Q
/-- a[lo:hi], any a -/
theorem pe_slice {r : V → Option Int → Option Int → Hp → VK → Prop} (hr : SlR X r) (he : PE X e te) (hl : PO X lo tl) (hu : PO X hi th) : PE X (.Subscript e (.Slice lo hi none p2) pos) (tSl r te tl th) := by
  intro pins s σ H Q I h
  refine Subscript_ (thn (he pins s σ H _ I h) fun v s1 ⟨x, H1, I1, r1, q1⟩ => ?_)
  refine wpAny_Slice (thn (hl pins s1 σ H1 _ I1 q1) fun vl s2 ⟨l, H2, I2, pl, q2⟩ => thn (hu pins s2 σ H2 _ I2 q2) fun vu s3 ⟨u, H3, I3, pu, q3⟩ => ?_)
  rw [evalPart_none]
  refine wpAny_pure ?_
  have I4 : Inv X pins σ H3 { s3 with heap := s3.heap.push { cls := .type "slice", data := .fields #[vl, vu, .none] } } := I3.kept (t' := s3.toks) fun b ob q => Heap.get?_push_of_some _ q
  obtain ⟨T, id, hT, ht, hg⟩ := hr pins { s3 with heap := s3.heap.push { cls := .type "slice", data := .fields #[vl, vu, .none] } } σ H3 x v vl vu l u s3.heap.objs.size Q I4 r1 (Heap.IsSliceOf.new ..) pl pu q3
  show wpAny (model X.prog X.w) X.A (subscriptTail e (.Slice lo hi none p2) v (.ref s3.heap.objs.size)) (EP X pins σ Q) X.xe { s3 with heap := s3.heap.push { cls := .type "slice", data := .fields #[vl, vu, .none] } }
  exact tail_any (ops := [.ref s3.heap.objs.size, v]) ht hT hg (by with_unfolding_all rfl)

/-- the items of xs[lo:hi] -/
noncomputable def cutV (xs : List V) (lo hi : Option Int) : List V := (xs.drop (HT.sIx xs.length 0 lo)).take (HT.sIx xs.length xs.length hi - HT.sIx xs.length 0 lo)
theorem cutV_length (xs : List V) (lo hi : Option Int) : (cutV xs lo hi).length ≤ xs.length := by
  unfold cutV
  rw [List.length_take, List.length_drop]
  omega
/-- t[lo:hi], not the whole of it (the whole would be t itself) -/
noncomputable def rSlT (K : PySem.W.Frag) : V → Option Int → Option Int → Hp → VK → Prop := fun x lo hi H Q => ∃ a xs, x = .ref a ∧ SqT K H a xs ∧
  ¬ (HT.sIx xs.length 0 lo = 0 ∧ HT.sIx xs.length xs.length hi = xs.length) ∧ ∀ p, H p = none → Q (.ref p) (upd H p (.tup (cutV xs lo hi)))
theorem sl_tup : SlR X (rSlT X.K) := by
  intro pins s σ H x v vl vu lo hi sl Q I rx hs pl pu h
  obtain ⟨a, xs, rfl, hx, hw, q⟩ := h
  cases rx
  obtain ⟨its, r, ht, hz⟩ := I.tuple hx
  have hlen : its.toArray.size = xs.length := by rw [List.size_toArray]; exact r.length.symm
  refine ⟨"tuple", _, PyProof.Rows.slot_tuple_getitem.lookup, ht.typeIs, ?_⟩
  refine HT.getItem_tuple_cut ht hs pl pu (by rw [hlen]; exact hw) ?_ (by rw [hlen]; exact hz)
  rw [hlen]
  refine ⟨.ref s.heap.objs.size, _, I.laid (t' := s.toks) (o := .tup (cutV xs lo hi)) (fun b ob q => Heap.get?_push_of_some _ q) (Nat.le_refl _) ?_, rfl, q _ (I.hok.fresh (Nat.le_refl _))⟩
  exact ⟨Nat.le_trans (cutV_length xs lo hi) hz, _, (r.drop (HT.sIx xs.length 0 lo)).take (HT.sIx xs.length xs.length hi - HT.sIx xs.length 0 lo), IsTup.new _ _⟩

/-! ### t < u, t + u -/
end
end L2

namespace L2
open PySem PySem.Spec PyProof.Rows

/-! ### places -/
/-- the place that an index of any sign means -/
noncomputable def ixN (n : Nat) (i : Int) : Option Nat := if 0 ≤ i then (if i < n then some i.toNat else none) else if -(n : Int) ≤ i then some (i + n).toNat else none
noncomputable def atI {α : Type} (xs : List α) (i : Int) : Option α := (ixN xs.length i).bind fun j => xs[j]?
theorem ixN_seq {n : Nat} {i : Int} {j : Nat} (h : ixN n i = some j) : seqIndex? i n = some j ∧ j < n ∧ -(n : Int) ≤ i ∧ i < n := by
  unfold ixN at h
  by_cases h0 : 0 ≤ i
  · rw [if_pos h0] at h
    by_cases h1 : i < n
    · rw [if_pos h1] at h
      have e : i.toNat = j := Option.some.inj h
      exact ⟨by rw [seqIndex_of h0 h1, e], by omega, by omega, h1⟩
    · rw [if_neg h1] at h; cases h
  · rw [if_neg h0] at h
    by_cases h1 : -(n : Int) ≤ i
    · rw [if_pos h1] at h
      have e : (i + n).toNat = j := Option.some.inj h
      exact ⟨by rw [seqIndex_neg (by omega) h1, e], by omega, h1, by omega⟩
    · rw [if_neg h1] at h; cases h
theorem atI_get {α : Type} {xs : List α} {i : Int} {v : α} (h : atI xs i = some v) : ∃ j, seqIndex? i xs.length = some j ∧ xs[j]? = some v ∧ j < xs.length ∧ -(xs.length : Int) ≤ i ∧ i < xs.length := by
  unfold atI at h
  cases e : ixN xs.length i with
  | none => rw [e] at h; cases h
  | some j =>
    rw [e] at h
    obtain ⟨h1, h2, h3, h4⟩ := ixN_seq e
    exact ⟨j, h1, h, h2, h3, h4⟩
theorem atI_nat {α : Type} {xs : List α} {j : Nat} {v : α} (h : xs[j]? = some v) : atI xs (j : Int) = some v := by
  have hj : j < xs.length := (List.getElem?_eq_some_iff.mp h).1
  have e : ixN xs.length (j : Int) = some j := by
    unfold ixN
    rw [if_pos (by omega), if_pos (by omega)]; simp
  unfold atI; rw [e]; exact h
/-! ### what may be subscripted -/
/-- what stands as an index of a plain subscript -/
noncomputable def PlainIx (b : Expr) : Prop := ∀ o i, subscripted b false o i = operate [o, i] (getItem o i)
/-- a subscript by values -/
noncomputable def IxR (X : Cx) (r : R2) : Prop :=
  ∀ (value slice : Expr) (pins : List (Addr × Obj)) (s : Shared) (σ : St) (H : Hp) (x y : V) (v u : Value) (Q : VK), Inv X pins σ H s → RelV x v → RelV y u → r x y H Q →
    subscripted slice false v u = operate [v, u] (getItem v u) → wpAny (model X.prog X.w) X.A (subscriptTail value slice v u) (EP X pins σ Q) X.xe s
/-- a call of a builtin's method by values: the receiver, the arguments -/
noncomputable def MtR (X : Cx) (id : String) (r : V → List V → Hp → VK → Prop) : Prop :=
  ∀ (pins : List (Addr × Obj)) (s : Shared) (σ : St) (H : Hp) (x : V) (xs : List V) (v : Value) (us : List Value) (Q : VK), Inv X pins σ H s → RelV x v → Vals xs us → r x xs H Q →
    wpAny (model X.prog X.w) X.A (call (.builtin id) (v :: us)) (EP X pins σ Q) X.xe s
section
variable {X : Cx} {a b : Expr} {ta tb : TE} {pos : Pos}
/-- a[b] -/
theorem pe_ix {r : R2} (hr : IxR X r) (ha : PE X a ta) (hb : PE X b tb) (hs : PlainIx b) : PE X (.Subscript a b pos) (tOp r ta tb) := by
  intro pins s σ H Q I h
  exact Subscript_ (binT ha hb I h fun v u s2 x y H2 I2 rx ry q => hr a b pins s2 σ H2 x y v u Q I2 rx ry q (hs _ _))

noncomputable def rIxL (K : PySem.W.Frag) : R2 := fun x y H Q => ∃ p xs i v, x = .ref p ∧ y = .int i ∧ SqL K H p xs ∧ atI xs i = some v ∧ Q v H
noncomputable def rIxT (K : PySem.W.Frag) : R2 := fun x y H Q => ∃ p xs i v, x = .ref p ∧ y = .int i ∧ SqT K H p xs ∧ atI xs i = some v ∧ Q v H
noncomputable def rIxS : R2 := fun x y H Q => ∃ z i c, x = .str z ∧ y = .int i ∧ z.length ≤ sizeLine ∧ atI z.cps.toList i = some c ∧ Q (.str ⟨#[c]⟩) H
theorem ix_list : IxR X (rIxL X.K) := by
  intro value slice pins s σ H x y v u Q I rx ry h hs
  obtain ⟨p, xs, i, z, rfl, rfl, hq, he, q⟩ := h
  cases rx
  obtain ⟨t, rfl⟩ := ry
  obtain ⟨its, r, pl, hz⟩ := I.list hq
  obtain ⟨j, h1, h2, h3, h4, h5⟩ := atI_get he
  obtain ⟨w, ew, rw'⟩ := r.get h2
  have hl := r.length
  have hn := line63
  have fin : EP X pins σ Q w s := ⟨z, H, I, rw', q⟩
  by_cases h0 : 0 ≤ i
  · have hj : i.toNat = j := by
      rw [seqIndex_of h0 h5] at h1
      exact Option.some.inj h1
    exact item_listR pl.isList h0 (by omega) (by rw [hj]; simpa using ew) fin hs
  · have hj : (i + (its.toArray.size : Int)).toNat = j := by
      rw [seqIndex_neg (by omega) h4] at h1
      rw [List.size_toArray, ← hl]
      exact Option.some.inj h1
    exact subscriptTail_builtinR (x := w) pl.isList.typeIs slot_list_getitem.lookup
      (wpAny_getItem_list_neg (Q := fun r s' => r = w ∧ EP X pins σ Q r s') pl.isList (by omega) (by rw [List.size_toArray] <;> omega) (by omega) (by rw [hj]; simpa using ew) ⟨rfl, fin⟩) hs
theorem ix_tup : IxR X (rIxT X.K) := by
  intro value slice pins s σ H x y v u Q I rx ry h hs
  obtain ⟨p, xs, i, z, rfl, rfl, hq, he, q⟩ := h
  cases rx
  obtain ⟨t, rfl⟩ := ry
  obtain ⟨its, r, pl, hz⟩ := I.tuple hq
  obtain ⟨j, h1, h2, h3, h4, h5⟩ := atI_get he
  obtain ⟨w, ew, rw'⟩ := r.get h2
  have hl := r.length
  have hn := line63
  have fin : EP X pins σ Q w s := ⟨z, H, I, rw', q⟩
  exact subscriptTail_builtinR (x := w) pl.typeIs slot_tuple_getitem.lookup
    (getItem_tuple (j := j) (Q := fun r s' => r = w ∧ EP X pins σ Q r s') pl (by omega) (by omega) (by rw [List.size_toArray, ← hl]; exact h1) (by simpa using ew) ⟨rfl, fin⟩) hs
theorem ix_str : IxR X rIxS := by
  intro value slice pins s σ H x y v u Q I rx ry h hs
  obtain ⟨z, i, c, rfl, rfl, hz, he, q⟩ := h
  obtain ⟨t, rfl⟩ := rx
  obtain ⟨t', rfl⟩ := ry
  obtain ⟨j, h1, h2, h3, h4, h5⟩ := atI_get he
  have hl : z.cps.toList.length = z.length := by simp [Str.length]
  rw [hl] at h1 h4 h5
  have hn := line63
  exact tail_any (typeIs_str s z t) slot_str_getitem.lookup (getItem_str (c := c) (by
    have e1 : decide (i < -(2 ^ 63 : Int)) = false := decide_eq_false (by omega)
    have e2 : decide (i ≥ 2 ^ 63) = false := decide_eq_false (by omega)
    rw [e1, e2, Bool.or_false]) (by rw [h1]; simpa using h2) ⟨.str ⟨#[c]⟩, H, I.tok _, ⟨_, rfl⟩, q⟩) hs
/-! ### xs[i] = v, any sign -/
/-- the list's object behind a store -/
theorem mapSeq_set (its : List Value) (n j : Nat) (u : Value) : Obj.mapSeq (·.setIfInBounds j u) { cls := .type "list", data := .seq its.toArray n } = { cls := .type "list", data := .seq (its.set j u).toArray n } := by
  simp [Obj.mapSeq]
theorem Inv.lst {pins : List (Addr × Obj)} {σ : St} {H : Hp} {s : Shared} {p : Addr} {xs : List V} (I : Inv X pins σ H s) (h : H p = some (.lst xs)) :
    ∃ (its : List Value) (n : Nat), Vals xs its ∧ s.heap.get? p = some { cls := .type "list", data := .seq its.toArray n } ∧ xs.length ≤ sizeLine := by
  obtain ⟨z, its, n, r, e⟩ := I.hok p _ h
  exact ⟨its, n, r, e, z⟩
/-- the list at p is written by an update of its object -/
theorem Inv.lstUpd {pins : List (Addr × Obj)} {σ : St} {H : Hp} {s : Shared} {p : Addr} {xs ys : List V} {its its' : List Value} {n n' : Nat} {f : Obj → Obj} (I : Inv X pins σ H s) (h : H p = some (.lst xs))
    (ho : s.heap.get? p = some { cls := .type "list", data := .seq its.toArray n }) (hf : f { cls := .type "list", data := .seq its.toArray n } = { cls := .type "list", data := .seq its'.toArray n' }) (r : Vals ys its') (hz : ys.length ≤ sizeLine) (t : Nat) :
    Inv X pins σ (upd H p (.lst ys)) { s with heap := s.heap.update p f, toks := t } := by
  have e : (s.heap.update p f).get? p = some { cls := .type "list", data := .seq its'.toArray n' } := by
    rw [Heap.get?_update_self f ho (by rw [hf] <;> rfl), hf]
  refine I.write (x := p) (e := p) (by rw [h]; trivial) (.inl rfl) (fun b u hb q => (Heap.get?_update_other _ _ (Ne.symm hb)).trans q) ⟨_, e⟩ ?_
  exact ⟨hz, its', n', r, e⟩
noncomputable def rSetL : V → V → V → Hp → (Hp → Prop) → Prop := fun o i v H Q => ∃ p xs k j, o = .ref p ∧ i = .int k ∧ H p = some (.lst xs) ∧ ixN xs.length k = some j ∧ Q (upd H p (.lst (xs.set j v)))
theorem set_list : PSet X rSetL := by
  intro pins s σ H o i v ov iv u Q I ro ri rv h
  obtain ⟨p, xs, k, j, rfl, rfl, hp, hj, q⟩ := h
  cases ro
  obtain ⟨t, rfl⟩ := ri
  obtain ⟨its, n, r, ho, hz⟩ := I.lst hp
  obtain ⟨h1, h2, h3, h4⟩ := ixN_seq hj
  have hl := r.length
  have hn := line63
  have I' : Inv X pins σ (upd H p (.lst (xs.set j v))) { s with heap := s.heap.update p (Obj.mapSeq (·.setIfInBounds j u)) } :=
    I.lstUpd hp ho (mapSeq_set its n j u) (r.set rv j) (by rw [List.length_set]; exact hz) s.toks
  by_cases h0 : 0 ≤ k
  · have hk : k.toNat = j := by
      rw [seqIndex_of h0 h4] at h1
      exact Option.some.inj h1
    exact PySem.W.ki_setAt ho h0 (by omega) (by rw [List.size_toArray, ← hl]; exact h4) (by rw [hk]; exact ⟨_, I', q⟩)
  · have hk : (k + (its.toArray.size : Int)).toNat = j := by
      rw [seqIndex_neg (by omega) h3] at h1
      rw [List.size_toArray, ← hl]
      exact Option.some.inj h1
    exact PySem.W.ki_setBack ho (by omega) (by rw [List.size_toArray, ← hl]; exact h3) (by omega) (by rw [hk]; exact ⟨_, I', q⟩)

/-! ### slices -/
theorem slice_bounds (lo hi : Option Int) (n : Nat) : (sliceBounds lo hi none n).1 = ((HT.sIx n 0 lo : Nat) : Int) ∧ (sliceBounds lo hi none n).2.1 = ((HT.sIx n n hi : Nat) : Int) ∧ (sliceBounds lo hi none n).2.2 = 1 := by
  refine ⟨?_, ?_, rfl⟩
  · cases lo with
    | none => simp [sliceBounds, HT.sIx]
    | some i =>
      simp only [sliceBounds, HT.sIx, Option.getD_none, show (1 : Int) > 0 by decide, if_true]
      by_cases h : i < 0
      · simp only [h, if_true] <;> omega
      · simp only [h, if_false] <;> omega
  · cases hi with
    | none => simp [sliceBounds, HT.sIx]
    | some i =>
      simp only [sliceBounds, HT.sIx, Option.getD_none, show (1 : Int) > 0 by decide, if_true]
      by_cases h : i < 0
      · simp only [h, if_true] <;> omega
      · simp only [h, if_false] <;> omega
theorem slicePick_cut (its : List Value) (lo hi : Option Int) : slicePick its.toArray lo hi none = ((its.drop (HT.sIx its.length 0 lo)).take (HT.sIx its.length its.length hi - HT.sIx its.length 0 lo)).toArray := by
  obtain ⟨h1, h2, h3⟩ := slice_bounds lo hi its.toArray.size
  unfold slicePick
  rw [h1, h2, h3]
  simp only [sliceRange_one, pick_run, List.size_toArray] <;> rfl
/-- xs[lo:hi] of a list: a new list -/
noncomputable def rSlL (K : PySem.W.Frag) : V → Option Int → Option Int → Hp → VK → Prop := fun x lo hi H Q => ∃ a xs, x = .ref a ∧ SqL K H a xs ∧ ∀ p, H p = none → Q (.ref p) (upd H p (.lst (cutV xs lo hi)))
theorem sl_list : SlR X (rSlL X.K) := by
  intro pins s σ H x v vl vu lo hi sl Q I rx hs pl pu h
  obtain ⟨a, xs, rfl, hx, q⟩ := h
  cases rx
  obtain ⟨its, r, ht, hz⟩ := I.list hx
  have hlen := r.length
  refine ⟨"list", _, slot_list_getitem.lookup, ht.isList.typeIs, ?_⟩
  refine wpAny_getItem_list_slice ht.isList hs pl pu .none (by simp) ?_ (by rw [List.size_toArray] <;> omega)
  rw [slicePick_cut, ← hlen]
  refine ⟨.ref s.heap.objs.size, _, I.laid (t' := s.toks) (o := .lst (cutV xs lo hi)) (fun b ob q => Heap.get?_push_of_some _ q) (Nat.le_refl _) ?_, rfl, q _ (I.hok.fresh (Nat.le_refl _))⟩
  exact ⟨Nat.le_trans (cutV_length xs lo hi) hz, _, 0, (r.drop (HT.sIx xs.length 0 lo)).take (HT.sIx xs.length xs.length hi - HT.sIx xs.length 0 lo), Heap.get?_push_size _ rfl⟩

/-! ### in, not in: flat items -/
noncomputable def flatV : V → Bool
  | .non => true
  | .bl _ => true
  | .int _ => true
  | .str _ => true
  | _ => false
/-- == of flat values -/
noncomputable def eqV : V → V → Bool
  | .non, .non => true
  | .bl a, .bl b => a == b
  | .bl a, .int b => (if a then 1 else 0) == b
  | .int a, .bl b => a == (if b then 1 else 0)
  | .int a, .int b => a == b
  | .str a, .str b => a == b
  | _, _ => false
theorem eqAt_V {A : Around} {s : Shared} {y x : V} {u v : Value} (ry : RelV y u) (rx : RelV x v) (fy : flatV y = true) (fx : flatV x = true) : SeqAt.EqAt A s u v (eqV y x) := by
  cases y with
  | non =>
    cases ry
    cases x with
    | non => cases rx; exact SeqAt.EqAt.same _
    | bl b => cases rx; exact SeqAt.EqAt.none_bool b
    | int b => obtain ⟨t, rfl⟩ := rx; exact SeqAt.EqAt.none_int b t
    | str b => obtain ⟨t, rfl⟩ := rx; exact SeqAt.EqAt.none_str b t
    | _ => exact absurd (show false = true from fx) Bool.false_ne_true
  | bl a =>
    cases ry
    cases x with
    | non => cases rx; exact SeqAt.EqAt.bool_none a
    | bl b => cases rx; exact SeqAt.EqAt.bool_bool a b
    | int b => obtain ⟨t, rfl⟩ := rx; exact SeqAt.EqAt.bool_int a b t
    | str b => obtain ⟨t, rfl⟩ := rx; exact SeqAt.EqAt.bool_str a b t
    | _ => exact absurd (show false = true from fx) Bool.false_ne_true
  | int a =>
    obtain ⟨t', rfl⟩ := ry
    cases x with
    | non => cases rx; exact SeqAt.EqAt.int_none a t'
    | bl b => cases rx; exact SeqAt.EqAt.int_bool a t' b
    | int b => obtain ⟨t, rfl⟩ := rx; exact SeqAt.EqAt.int_int a t' b t
    | str b => obtain ⟨t, rfl⟩ := rx; exact SeqAt.EqAt.int_str a t' b t
    | _ => exact absurd (show false = true from fx) Bool.false_ne_true
  | str a =>
    obtain ⟨t', rfl⟩ := ry
    cases x with
    | non => cases rx; exact SeqAt.EqAt.str_none a t'
    | bl b => cases rx; exact SeqAt.EqAt.str_bool a t' b
    | int b => obtain ⟨t, rfl⟩ := rx; exact SeqAt.EqAt.str_int a t' b t
    | str b => obtain ⟨t, rfl⟩ := rx; exact SeqAt.EqAt.str_str a t' b t
    | _ => exact absurd (show false = true from fx) Bool.false_ne_true
  | _ => exact absurd (show false = true from fy) Bool.false_ne_true
/-- the items' answers, read off the values (a value's own answer does not lean on its token) -/
noncomputable def eqU (x : V) (u : Value) : Bool := match u with
  | .none => eqV .non x
  | .bool b => eqV (.bl b) x
  | .int i _ => eqV (.int i) x
  | .str z _ => eqV (.str z) x
  | _ => false
theorem eqU_of {x y : V} {u : Value} (r : RelV y u) (f : flatV y = true) : eqU x u = eqV y x := by
  cases y with
  | non => cases r; rfl
  | bl b => cases r; rfl
  | int i => obtain ⟨t, rfl⟩ := r; rfl
  | str z => obtain ⟨t, rfl⟩ := r; rfl
  | _ => exact absurd (show false = true from f) Bool.false_ne_true
theorem any_eqU {x : V} : ∀ {xs : List V} {us : List Value}, Vals xs us → xs.all flatV = true → us.any (eqU x) = xs.any fun y => eqV y x
  | _, _, .nil, _ => rfl
  | y :: xs, u :: us, .cons r t, f => by
    rw [List.all_cons, Bool.and_eq_true] at f
    rw [List.any_cons, List.any_cons, eqU_of r f.1, any_eqU t f.2]
theorem mem_eqAt {A : Around} {s : Shared} {x : V} {v : Value} (rx : RelV x v) (fx : flatV x = true) : ∀ {xs : List V} {us : List Value}, Vals xs us → xs.all flatV = true → ∀ u ∈ us, SeqAt.EqAt A s u v (eqU x u)
  | _, _, .nil, _ => fun u hu => by cases hu
  | y :: xs, u :: us, .cons r t, f => fun u' hu => by
    rw [List.all_cons, Bool.and_eq_true] at f
    rcases List.mem_cons.mp hu with rfl | hu
    · rw [eqU_of r f.1]; exact eqAt_V r rx f.1 fx
    · exact mem_eqAt rx fx t f.2 u' hu
noncomputable def inV (x : V) (xs : List V) : Bool := xs.any fun y => eqV y x
/-- x in a list or tuple of flat items -/
noncomputable def rIn (K : PySem.W.Frag) (neg : Bool) : R2 := fun x y H Q => ∃ p xs, y = .ref p ∧ (SqL K H p xs ∨ SqT K H p xs) ∧ flatV x = true ∧ xs.all flatV = true ∧ Q (.bl (if neg then !inV x xs else inV x xs)) H
theorem op_in_seq : OpR X (compareOp .In) (rIn X.K false) := by
  intro pins s σ H x y v u Q I rx ry h
  obtain ⟨p, xs, rfl, hq, fx, fs, q⟩ := h
  cases ry
  rcases hq with hq | hq
  · obtain ⟨its, r, pl, hz⟩ := I.list hq
    refine SeqAt.in_listAt (eqU x) pl.isList (fun w hw => mem_eqAt rx fx r fs w (by simpa using hw)) ⟨.bl _, H, I, rfl, ?_⟩
    rw [show its.toArray.any (eqU x) = its.any (eqU x) by simp, any_eqU r fs]
    exact q
  · obtain ⟨its, r, pl, hz⟩ := I.tuple hq
    refine SeqAt.in_tupleAt (eqU x) pl (fun w hw => mem_eqAt rx fx r fs w (by simpa using hw)) ⟨.bl _, H, I, rfl, ?_⟩
    rw [show its.toArray.any (eqU x) = its.any (eqU x) by simp, any_eqU r fs]
    exact q
theorem op_notIn_seq : OpR X (compareOp .NotIn) (rIn X.K true) := by
  intro pins s σ H x y v u Q I rx ry h
  obtain ⟨p, xs, rfl, hq, fx, fs, q⟩ := h
  cases ry
  rcases hq with hq | hq
  · obtain ⟨its, r, pl, hz⟩ := I.list hq
    refine SeqAt.notIn_listAt (eqU x) pl.isList (fun w hw => mem_eqAt rx fx r fs w (by simpa using hw)) ⟨.bl _, H, I, rfl, ?_⟩
    rw [show its.toArray.any (eqU x) = its.any (eqU x) by simp, any_eqU r fs]
    exact q
  · obtain ⟨its, r, pl, hz⟩ := I.tuple hq
    refine SeqAt.notIn_tupleAt (eqU x) pl (fun w hw => mem_eqAt rx fx r fs w (by simpa using hw)) ⟨.bl _, H, I, rfl, ?_⟩
    rw [show its.toArray.any (eqU x) = its.any (eqU x) by simp, any_eqU r fs]
    exact q
/-! ### len, list(x), tuple(x) of any list or tuple that is read -/
theorem call_len_seq : CallR X (.builtin "len") (fun xs H Q => ∃ p ys, xs = [.ref p] ∧ (SqL X.K H p ys ∨ SqT X.K H p ys) ∧ Q (.int ys.length) H) := by
  intro pins s σ H xs us Q I r h
  obtain ⟨p, ys, rfl, hq, q⟩ := h
  obtain ⟨u, rfl, rx⟩ := vals1 r
  cases rx
  have hn := line63
  rcases hq with hq | hq
  · obtain ⟨its, r', pl, hz⟩ := I.list hq
    have hlen := r'.length
    exact Calls.call_len_list pl.isList (by simp only [List.size_toArray] <;> omega) ⟨.int ys.length, H, I.tok _, ⟨s.toks + 1, by rw [List.size_toArray, hlen]⟩, q⟩
  · obtain ⟨its, r', pl, hz⟩ := I.tuple hq
    have hlen := r'.length
    exact len_tuple pl (by simp only [List.size_toArray] <;> omega) ⟨.int ys.length, H, I.tok _, ⟨s.toks + 1, by rw [List.size_toArray, hlen]⟩, q⟩
theorem call_len_str : CallR X (.builtin "len") (fun xs H Q => ∃ z, xs = [.str z] ∧ z.length ≤ sizeLine ∧ Q (.int z.length) H) := by
  intro pins s σ H xs us Q I r h
  obtain ⟨z, rfl, hz, q⟩ := h
  obtain ⟨u, rfl, t, rfl⟩ := vals1 r
  have hn := line63
  exact len_str (by omega) ⟨.int z.length, H, I.tok _, ⟨_, rfl⟩, q⟩
theorem call_list_of : CallR X (.type "list") (fun xs H Q => ∃ p ys, xs = [.ref p] ∧ (SqL X.K H p ys ∨ SqT X.K H p ys) ∧ ∀ l, H l = none → Q (.ref l) (upd H l (.lst ys))) := by
  intro pins s σ H xs us Q I r h
  obtain ⟨p, ys, rfl, hq, q⟩ := h
  obtain ⟨u, rfl, rx⟩ := vals1 r
  cases rx
  have fin : ∀ (its : List Value), Vals ys its → ys.length ≤ sizeLine → ∀ (h' : Heap) (c' : Nat), (∀ b o', s.heap.get? b = some o' → h'.get? b = some o') →
      h'.get? s.heap.objs.size = some { cls := .type "list", dict := none, data := .seq its.toArray c', slots := #[] } → EP X pins σ Q (.ref s.heap.objs.size) { s with heap := h' } := fun its r' hz h' c' kp e =>
    ⟨.ref s.heap.objs.size, _, I.laid (t' := s.toks) kp (Nat.le_refl _) (show ObjOk X.prog X.w _ h' _ (.lst ys) from ⟨hz, its, c', r', e⟩), rfl, q _ (I.hok.fresh (Nat.le_refl _))⟩
  rcases hq with hq | hq
  · obtain ⟨its, r', pl, hz⟩ := I.list hq
    have hlen := r'.length
    obtain ⟨o, ho, hc, n, hd⟩ := pl.isList
    exact call_list_seq p (.inl rfl) ho hc hd (fun h' c' kp e => fin its r' hz h' c' kp e) (by simp only [List.size_toArray] <;> omega)
  · obtain ⟨its, r', pl, hz⟩ := I.tuple hq
    have hlen := r'.length
    obtain ⟨o, ho, hc, n, hd⟩ := pl
    exact call_list_seq p (.inr rfl) ho hc hd (fun h' c' kp e => fin its r' hz h' c' kp e) (by simp only [List.size_toArray] <;> omega)
theorem call_tuple_of : CallR X (.type "tuple") (fun xs H Q => ∃ p ys, xs = [.ref p] ∧ ((SqL X.K H p ys ∧ ∀ l, H l = none → Q (.ref l) (upd H l (.tup ys))) ∨ (SqT X.K H p ys ∧ Q (.ref p) H))) := by
  intro pins s σ H xs us Q I r h
  obtain ⟨p, ys, rfl, h⟩ := h
  obtain ⟨u, rfl, rx⟩ := vals1 r
  cases rx
  rcases h with ⟨hq, q⟩ | ⟨hq, q⟩
  · obtain ⟨its, r', pl, hz⟩ := I.list hq
    have hlen := r'.length
    refine call_tuple_list pl.isList (fun h' kp => ?_) (by simp only [List.size_toArray] <;> omega)
    have I1 : Inv X pins σ H { s with heap := h' } := I.kept (t' := s.toks) kp
    have I2 : Inv X pins σ (upd H h'.objs.size (.tup ys)) { s with heap := h'.push { cls := .type "tuple", data := .seq its.toArray } } :=
      I1.laid (t' := s.toks) (fun b o e => Heap.get?_push_of_some _ e) (Nat.le_refl _) (show ObjOk X.prog X.w _ _ _ (.tup ys) from ⟨hz, its, r', IsTup.new _ _⟩)
    exact ⟨.ref h'.objs.size, _, I2, rfl, q _ (I1.hok.fresh (Nat.le_refl _))⟩
  · obtain ⟨its, r', pl, hz⟩ := I.tuple hq
    exact call_tuple_same pl ⟨.ref p, H, I, rfl, q⟩

/-! ### the call of a builtin's method: o.m(..) -/
/-- the value is of that builtin type -/
noncomputable def tyV (K : PySem.W.Frag) (T : String) (x : V) (H : Hp) : Prop := match x with
  | .str _ => T = "str"
  | .int _ => T = "int"
  | .ref p => (T = "list" ∧ ∃ xs, SqL K H p xs) ∨ (T = "tuple" ∧ ∃ o, K.lookup p = some o ∧ o.cls = .type "tuple" ∧ o.dict = none) ∨
      (T = "dict" ∧ ((∃ kvs, H p = some (.dK kvs)) ∨ ∃ kvs, H p = some (.dT kvs))) ∨ (T = "set" ∧ ∃ S n, H p = some (.set S n))
  | _ => False
theorem tyV_is {pins : List (Addr × Obj)} {σ : St} {H : Hp} {s : Shared} {T : String} {x : V} {v : Value} (I : Inv X pins σ H s) (r : RelV x v) (ty : tyV X.K T x H) :
    s.TypeIs v T ∧ ∀ a, v = .ref a → ∃ ob, s.heap.get? a = some ob ∧ ob.dict = none := by
  cases x with
  | str z =>
    obtain ⟨t, rfl⟩ := r
    cases (show T = "str" from ty)
    exact ⟨typeIs_str s z t, fun _ e => nomatch e⟩
  | int i =>
    obtain ⟨t, rfl⟩ := r
    cases (show T = "int" from ty)
    exact ⟨typeIs_int s i t, fun _ e => nomatch e⟩
  | ref p =>
    cases r
    rcases ty with ⟨rfl, xs, hq⟩ | ⟨rfl, o, hk, hc, hd⟩ | ⟨rfl, hk⟩ | ⟨rfl, S, n, hk⟩
    · obtain ⟨its, _, pl, _⟩ := I.list hq
      refine ⟨pl.isList.typeIs, fun a e => ?_⟩
      cases e
      obtain ⟨o, n, e, c, hd, _⟩ := pl
      exact ⟨o, e, hd⟩
    · refine ⟨⟨o, I.kIn p o hk, hc⟩, fun a e => ?_⟩
      cases e
      exact ⟨o, I.kIn _ o hk, hd⟩
    · have z : ∃ o, s.heap.get? p = some o ∧ o.ExactDict := by
        rcases hk with ⟨kvs, hk⟩ | ⟨kvs, hk⟩
        · obtain ⟨_, _, _, _, o, _, _, e, ex, _⟩ := I.hok p _ hk
          exact ⟨o, e, ex⟩
        · obtain ⟨_, _, _, _, o, _, _, e, ex, _⟩ := I.hok p _ hk
          exact ⟨o, e, ex⟩
      obtain ⟨o, e, ex⟩ := z
      refine ⟨⟨o, e, ex.1⟩, fun a e2 => ?_⟩
      cases e2
      exact ⟨o, e, ex.2.1⟩
    · obtain ⟨o, _, _, _, e, ex, _⟩ := I.hok p _ hk
      refine ⟨⟨o, e, ex.1⟩, fun a e2 => ?_⟩
      cases e2
      exact ⟨o, e, ex.2.1⟩
  | _ => exact False.elim ty
variable {o e : Expr} {es : List Expr} {to : TE} {t : TA} {name : Str} {apos cpos : Pos} {T id : String} {r : V → List V → Hp → VK → Prop}
/- xs.append(e), list.index on a module's tuple .. are MtR facts of 06m -/
end
end L2

namespace L2
open PySem PySem.Spec PyProof.Rows

noncomputable def MtM (X : Cx) (id : String) (r : V → List V → Hp → VK → Prop) : Prop :=
  ∀ (pins : List (Addr × Obj)) (s : Shared) (σ : St) (H : Hp) (x : V) (xs : List V) (v : Value) (us : List Value) (Q : VK), Inv X pins σ H s → RelV x v → Vals xs us → r x xs H Q →
    wpAny (model X.prog X.w) X.A (call (.builtin id) (v :: us)) (EP X pins σ Q) X.xe s

/-! ### lists of values -/
theorem Vals.one : ∀ {x : V} {us : List Value}, Vals [x] us → ∃ u, us = [u] ∧ RelV x u
  | _, _, .cons r .nil => ⟨_, rfl, r⟩
theorem Vals.zero : ∀ {us : List Value}, Vals [] us → us = []
  | _, .nil => rfl
theorem Vals.dropLast {xs : List V} {us : List Value} (h : Vals xs us) : Vals xs.dropLast us.dropLast := by
  induction h with
  | nil => exact .nil
  | cons r t ih =>
    cases t with
    | nil => exact .nil
    | cons q t' => exact .cons r ih
theorem Vals.eraseIdx : ∀ {xs : List V} {us : List Value} (i : Nat), Vals xs us → Vals (xs.eraseIdx i) (us.eraseIdx i)
  | _, _, _, .nil => .nil
  | _, _, 0, .cons _ t => t
  | _, _, i + 1, .cons r t => .cons r (Vals.eraseIdx i t)
theorem Vals.reverse {xs : List V} {us : List Value} (h : Vals xs us) : Vals xs.reverse us.reverse := by
  induction h with
  | nil => exact .nil
  | cons r t ih => rw [List.reverse_cons, List.reverse_cons]; exact Vals.append ih (.cons r .nil)
theorem Vals.rep {xs : List V} {us : List Value} (h : Vals xs us) : ∀ k : Nat, Vals (List.replicate k xs).flatten (List.replicate k us).flatten
  | 0 => .nil
  | k + 1 => by
    rw [List.replicate_succ, List.replicate_succ, List.flatten_cons, List.flatten_cons]
    exact Vals.append h (Vals.rep h k)
theorem erase_last {α : Type} (l : List α) : l.eraseIdx (l.length - 1) = l.dropLast := by
  induction l with
  | nil => rfl
  | cons a r ih =>
    cases r with
    | nil => rfl
    | cons b r =>
      have e : (a :: b :: r).length - 1 = ((b :: r).length - 1) + 1 := by
        have h1 : (a :: b :: r).length = r.length + 2 := rfl
        have h2 : (b :: r).length = r.length + 1 := rfl
        omega
      rw [e, List.eraseIdx_cons_succ, ih]
      all_goals rfl
theorem foldl_rep (its : List Value) : ∀ (k : Nat) (acc : List Value),
    List.foldl (fun x1 x2 => x1 ++ x2) acc.toArray (List.replicate k its.toArray) = (acc ++ (List.replicate k its).flatten).toArray
  | 0, acc => by simp
  | k + 1, acc => by
    have e : acc.toArray ++ its.toArray = (acc ++ its).toArray := by simp
    have e2 : (acc ++ its) ++ (List.replicate k its).flatten = acc ++ (List.replicate (k + 1) its).flatten := by
      rw [List.replicate_succ, List.flatten_cons, List.append_assoc]
    rw [← e2, ← foldl_rep its k (acc ++ its), ← e, List.replicate_succ, List.foldl_cons]

section
variable {X : Cx} {pins : List (Addr × Obj)} {σ : St} {H : Hp} {s : Shared} {l b : Addr} {xs ys zs : List V}

/-! ### the two steps: a tracked list is rewritten, a new list is laid -/
theorem Inv.lset {its its' : List Value} {n : Nat} {f : Array Value → Array Value} {t' : Nat} (I : Inv X pins σ H s) (hH : H l = some (.lst xs))
    (e : s.heap.get? l = some { cls := .type "list", data := .seq its.toArray n }) (hf : f its.toArray = its'.toArray) (hv : Vals ys its') (hz : ys.length ≤ sizeLine) :
    Inv X pins σ (upd H l (.lst ys)) { s with heap := s.heap.update l (Obj.mapSeq f), toks := t' } := by
  have q := PySem.IsL.update e f
  rw [hf] at q
  refine I.write (x := l) (e := l) (by rw [hH]; exact trivial) (.inl rfl) (fun b' u hb hu => (Heap.get?_update_other s.heap (Obj.mapSeq f) (Ne.symm hb)).trans hu) ⟨_, q⟩ ?_
  exact ⟨hz, its', _, hv, q⟩
theorem Inv.lnew {its : List Value} {t' : Nat} (I : Inv X pins σ H s) (hv : Vals ys its) (hz : ys.length ≤ sizeLine) :
    Inv X pins σ (upd H s.heap.objs.size (.lst ys)) { s with heap := s.heap.push { cls := .type "list", data := .seq its.toArray }, toks := t' } :=
  I.laid (fun _ _ q => Heap.get?_push_of_some _ q) (Nat.le_refl _) ⟨hz, its, 0, hv, Heap.get?_push_size _ rfl⟩
theorem Inv.fresh (I : Inv X pins σ H s) : H s.heap.objs.size = none := I.hok.fresh (Nat.le_refl _)
theorem Inv.lstM (I : Inv X pins σ H s) (hH : H l = some (.lst xs)) : xs.length ≤ sizeLine ∧ ∃ (its : List Value) (n : Nat), Vals xs its ∧ xs.length = its.length ∧ s.heap.get? l = some { cls := .type "list", data := .seq its.toArray n } := by
  obtain ⟨z, its, n, r, e⟩ := I.hok l _ hH
  exact ⟨z, its, n, r, r.length, e⟩

theorem notLongL {n : Nat} (h : n ≤ sizeLine) : Builtin.List.listTooLong n = false := by
  unfold Builtin.List.listTooLong
  exact decide_eq_false (by omega)
end

section
variable {X : Cx}

/-! ### methods -/
noncomputable def rAppend : V → List V → Hp → VK → Prop := fun x vs H Q => ∃ l xs y, x = .ref l ∧ vs = [y] ∧ H l = some (.lst xs) ∧ xs.length < sizeLine ∧ Q .non (upd H l (.lst (xs ++ [y])))
theorem mt_append : MtM X "list.append" rAppend := by
  intro pins s σ H x vs v us Q I rx rv h
  obtain ⟨l, xs, y, rfl, rfl, hH, hz, q⟩ := h
  cases rx
  obtain ⟨u, rfl, ru⟩ := rv.one
  obtain ⟨z, its, n, r, hl, e⟩ := I.lstM hH
  refine call_meets F.slot_list_append ⟨_, e, rfl⟩ F.entry_list_append (F.args_list_append_2 _ _) (PySem.list_append l its.toArray n u (by rw [List.size_toArray]; omega)) ⟨e, ?_⟩
  refine ⟨.non, _, I.lset (its' := its ++ [u]) hH e (by simp) (r.append (.cons ru .nil)) ?_, rfl, q⟩
  rw [List.length_append, List.length_singleton]
  omega

noncomputable def rExtend : V → List V → Hp → VK → Prop := fun x vs H Q => ∃ l b xs zs, x = .ref l ∧ vs = [.ref b] ∧ H l = some (.lst xs) ∧ H b = some (.lst zs) ∧ xs.length + zs.length ≤ sizeLine ∧ Q .non (upd H l (.lst (xs ++ zs)))
theorem mt_extend : MtM X "list.extend" rExtend := by
  intro pins s σ H x vs v us Q I rx rv h
  obtain ⟨l, b, xs, zs, rfl, rfl, hH, hB, hz, q⟩ := h
  cases rx
  obtain ⟨u, rfl, ru⟩ := rv.one
  cases ru
  obtain ⟨z, its, n, r, hl, e⟩ := I.lstM hH
  obtain ⟨z2, its2, n2, r2, hl2, e2⟩ := I.lstM hB
  have hsz : its.toArray.size + its2.toArray.size ≤ sizeLine := by rw [List.size_toArray, List.size_toArray]; omega
  have hlong : ¬ (!its.toArray.isEmpty && Builtin.List.listTooLong (its.toArray.size + its2.toArray.size)) = true := by
    rw [notLongL hsz, Bool.and_false]
    exact Bool.false_ne_true
  refine call_meets F.slot_list_extend ⟨_, e, rfl⟩ F.entry_list_extend (F.args_list_extend_2 _ _)
    (AutoSeq1.list_extend_list_list_0 l its.toArray n b its2.toArray n2 hlong (by rw [List.size_toArray]; omega) (by omega)) ⟨e, e2, ?_⟩
  refine ⟨.non, _, I.lset (its' := its ++ its2) hH e (by simp) (r.append r2) ?_, rfl, q⟩
  rw [List.length_append]
  omega

noncomputable def rPop : V → List V → Hp → VK → Prop := fun x vs H Q => ∃ l xs y, x = .ref l ∧ vs = [] ∧ H l = some (.lst xs) ∧ xs[xs.length - 1]? = some y ∧ Q y (upd H l (.lst xs.dropLast))
theorem mt_pop : MtM X "list.pop" rPop := by
  intro pins s σ H x vs v us Q I rx rv h
  obtain ⟨l, xs, y, rfl, rfl, hH, hy, q⟩ := h
  cases rx
  have hus := rv.zero
  subst hus
  obtain ⟨z, its, n, r, hl, e⟩ := I.lstM hH
  obtain ⟨u, hu, ru⟩ := r.get hy
  have hy' : its.toArray[its.toArray.size - 1]? = some u := by
    show its.toArray[its.length - 1]? = some u
    rw [← Array.getElem?_toList, ← hl]
    exact hu
  refine call_meets F.slot_list_pop ⟨_, e, rfl⟩ F.entry_list_pop (F.args_list_pop_1 _) (MeetsSeq.list_pop_last l its.toArray n u hy' (by rw [List.size_toArray]; omega)) ⟨e, ?_⟩
  refine ⟨y, _, I.lset (its' := its.dropLast) hH e ?_ r.dropLast ?_, ru, q⟩
  · show its.toArray.eraseIdxIfInBounds (its.toArray.size - 1) = its.dropLast.toArray
    rw [List.size_toArray, List.eraseIdxIfInBounds_toArray, erase_last]
  · rw [List.length_dropLast]
    omega

noncomputable def rReverse : V → List V → Hp → VK → Prop := fun x vs H Q => ∃ l xs, x = .ref l ∧ vs = [] ∧ H l = some (.lst xs) ∧ Q .non (upd H l (.lst xs.reverse))
theorem mt_reverse : MtM X "list.reverse" rReverse := by
  intro pins s σ H x vs v us Q I rx rv h
  obtain ⟨l, xs, rfl, rfl, hH, q⟩ := h
  cases rx
  have hus := rv.zero
  subst hus
  obtain ⟨z, its, n, r, hl, e⟩ := I.lstM hH
  refine call_meets F.slot_list_reverse ⟨_, e, rfl⟩ F.entry_list_reverse (F.args_list_reverse_1 _) (AutoSeq1.list_reverse_list_0 l its.toArray n (by rw [List.size_toArray]; omega)) ⟨e, ?_⟩
  refine ⟨.non, _, I.lset (its' := its.reverse) hH e (by simp) r.reverse ?_, rfl, q⟩
  rw [List.length_reverse]
  omega

/-! ### list + list, list += list, list * int -/
noncomputable def rCat : R2 := fun x y H Q => ∃ l b xs zs, x = .ref l ∧ y = .ref b ∧ H l = some (.lst xs) ∧ H b = some (.lst zs) ∧ xs.length + zs.length ≤ sizeLine ∧ ∀ p, H p = none → Q (.ref p) (upd H p (.lst (xs ++ zs)))
theorem op_cat : OpR X (binaryOp .Add) rCat := by
  intro pins s σ H x y v u Q I rx ry h
  obtain ⟨l, b, xs, zs, rfl, rfl, hH, hB, hz, q⟩ := h
  cases rx
  cases ry
  obtain ⟨z, its, n, r, hl, e⟩ := I.lstM hH
  obtain ⟨z2, its2, n2, r2, hl2, e2⟩ := I.lstM hB
  refine PySem.P.add_list e e2 ?_ (by rw [List.size_toArray, List.size_toArray]; omega)
  have ea : its.toArray ++ its2.toArray = (its ++ its2).toArray := by simp
  rw [ea]
  exact ⟨.ref _, _, I.lnew (t' := s.toks) (r.append r2) (by rw [List.length_append]; omega), rfl, q _ I.fresh⟩
/-- a list times an int (a negative one is nothing) -/
noncomputable def rRep : R2 := fun x y H Q => ∃ l k xs, x = .ref l ∧ y = .int k ∧ H l = some (.lst xs) ∧ -(2 ^ 63) ≤ k ∧ k < 2 ^ 63 ∧ xs.length * k.toNat ≤ sizeLine ∧
  ∀ p, H p = none → Q (.ref p) (upd H p (.lst (List.replicate k.toNat xs).flatten))
theorem len_rep {α : Type} (xs : List α) (k : Nat) : (List.replicate k xs).flatten.length = k * xs.length := by
  induction k with
  | zero => simp
  | succ k ih => rw [List.replicate_succ, List.flatten_cons, List.length_append, ih, Nat.succ_mul, Nat.add_comm]
theorem op_rep : OpR X (binaryOp .Mult) rRep := by
  intro pins s σ H x y v u Q I rx ry h
  obtain ⟨l, k, xs, rfl, rfl, hH, h1, h2, hz, q⟩ := h
  cases rx
  obtain ⟨t, rfl⟩ := ry
  obtain ⟨z, its, n, r, hl, e⟩ := I.lstM hH
  have hlen : its.toArray.size * k.toNat ≤ sizeLine := by rw [List.size_toArray, ← hl]; exact hz
  have hcap : ¬ its.toArray.size * k.toNat > (2 ^ 63 - 1) / 8 := by
    have : (sizeLine : Nat) ≤ (2 ^ 63 - 1) / 8 := by decide
    omega
  have hfit : ¬ (!Builtin.List.listFitsIndex k) = true := by
    rw [fitsIndex_both h1 h2]
    exact Bool.false_ne_true
  have hlong : ¬ Builtin.List.listTooLong (its.toArray.size * k.toNat) = true := by
    rw [notLongL hlen]
    exact Bool.false_ne_true
  have hnew : List.foldl (fun x1 x2 => x1 ++ x2) #[] (List.replicate (if its.toArray.isEmpty = true then 0 else k.toNat) its.toArray) = (List.replicate k.toNat its).flatten.toArray := by
    have f0 : ∀ m : Nat, List.foldl (fun x1 x2 => x1 ++ x2) #[] (List.replicate m its.toArray) = (List.replicate m its).flatten.toArray := fun m => by
      have := foldl_rep its m []
      rw [List.nil_append] at this
      exact this
    rw [f0]
    cases its with
    | nil => simp
    | cons a r' => rw [if_neg (by simp)]
  refine wpAny_binaryOp_repeat_ref (T := "list") (U := "int") (by decide) ⟨_, e, rfl⟩ (fun s' => typeIs_int s' k t) noFill_list_mul F.fills_int_mul F.slot_int_rmul repeat_list F.slot_int_index.lookup
    (call_meets F.slot_int_rmul (typeIs_int s k t) F.entry_int_rmul (F.args_int_rmul_2 _ _) (int___rmul___int_list k t l its.toArray n)
      ⟨e, rfl, ⟨_, e, rfl⟩, call_meets F.slot_list_mul ⟨_, e, rfl⟩ F.entry_list_mul (F.args_list_mul_2 _ _) (AutoListH.list___mul___list_int_3 l its.toArray n k t hfit hcap hlong) ⟨e, ?_⟩⟩)
  rw [hnew]
  exact ⟨.ref _, _, I.lnew (t' := s.toks) (r.rep k.toNat) (by rw [len_rep, Nat.mul_comm]; exact hz), rfl, q _ I.fresh⟩

/-! ### del xs[i] -/
end

/-! ### xs[a:b] = ys -/
section
variable {prog : Program} {w : World} {A : Around} {E : Value → Shared → Prop} {s : Shared}
end

section
variable {X : Cx}
end
end L2

namespace Att
open PySem PySem.W PySem.Calls PyProof.Rows

/-! ### the script -/
theorem ints_of_wellAll {P : Params} {h : Heap} : ∀ (ns : List Int) (vs : List Value), WellAll P h vs (ns.map WData.int) → IntsAre vs ns := by
  intro ns
  induction ns with
  | nil =>
    intro vs w
    rw [List.map_nil] at w
    cases w
    exact .nil
  | cons n ns ih =>
    intro vs w
    rw [List.map_cons] at w
    cases w with
    | cons a b =>
      cases a
      exact .cons _ _ (ih _ b)

theorem script_of {l : OpenLaw} {n : Nat} (hn : l.most = some n) {P : Params} {h : Heap} {args : List WData} {vals : List Value}
    (hpre : l.row.toRowW.claim.pre args = true) (hwl : WellAll P h vals args) :
    ∃ a vs ns, vals = [Value.ref a] ∧ args = [WData.list (ns.map WData.int)] ∧ h.get? a = some { cls := .type "list", data := .seq vs.toArray } ∧ IntsAre vs ns ∧ ns.length ≤ n := by
  have hsh : WShape.hasAll [] args [.list .int] = true := (pre_splitW hpre).1
  have hc : l.pre.holds [] { args := args } = true := (pre_splitW hpre).2
  obtain ⟨d, r, rfl, h1, h2⟩ := hasAllW_cons hsh
  obtain rfl := hasAllW_nil h2
  obtain ⟨xs, rfl, h3⟩ := hasW_list h1
  obtain ⟨ns, rfl⟩ := items_int h3
  have hlen : ns.length ≤ n := by
    unfold OpenLaw.pre at hc
    have h4 : (WTm.not (.lt (.lit (.int (n : Int))) (.len (.arg 0)))).holds [] { args := [.list (ns.map .int)] } = true := by
      have h4 := (holds_andW hc).1
      rw [hn] at h4
      exact h4
    have h5 := condW_of h4 (w_not (w_lt w_lit (w_len_list (w_arg rfl))))
    rw [List.length_map] at h5
    refine Nat.le_of_not_lt fun q => ?_
    have q' : (n : Int) < ((ns.length : Nat) : Int) := by omega
    first
      | (rw [decide_eq_true q'] at h5; exact absurd h5 (by decide))
      | (simp at h5; omega)
  cases hwl with
  | cons w1 w2 =>
    cases w2
    cases w1 with
    | list ho hall => exact ⟨_, _, ns, rfl, rfl, ho, ints_of_wellAll ns _ hall, hlen⟩

theorem post_true (l : OpenLaw) (args : List WData) : l.row.toRowW.claim.post args (.bool true) args = true :=
  postW_of (r := l.row.toRowW) (X := (true == true))
    (show WShape.has [] (.bool true) .bool = true by first | rfl | decide | simp [WShape.has, WShape.arms, WShape.armsAll])
    (show (WTm.eq .res (.lit (.bool true))).value [] { args := args, res := some (.bool true), after := args } = some (.bool (true == true)) from w_eq_bool (w_res rfl) w_lit) rfl

/-! ### the attachment: holds_open's last premise (the goal 'hc' behind k_head) from a wpAny of the law's body -/
/-- the same from a codeAny of the CALL (for a layer whose function contracts speak of calls) -/
theorem attach_call {l : OpenLaw} {n : Nat} {q : Program} {loose : List Str} {XP : (Str → Option Value) → Heap → Prop} {YP : World → Heap → Prop} {d : DefRec}
    (hn : l.most = some n) (hdf : d.params.defaults = [])
    (call : ∀ (w : World) (s₀ s₁ : Shared) (mg mb : Str → Option Value) (fa : Addr) (o : Obj) (pm cd doc : Value) (a : Addr) (vs : List Value) (ns : List Int),
      Ground q loose [] XP w s₀ mg mb s₁.heap → YP w s₁.heap →
      s₁.heap.get? fa = some o → o.data = .func (docDef d.name d.params d.body d.scope pm cd doc) → s₁.heap.CodeRec cd d.name → mg d.name = some (.ref fa) →
      s₁.heap.get? a = some { cls := .type "list", data := .seq vs.toArray } → IntsAre vs ns → ns.length ≤ n → s₁.gens = #[] →
      codeAny (model l.prog w) callerA (.call (.ref fa) ⟨[.ref a], []⟩) (fun r s' => r = .ok (.ret (.bool true)) ∧ OldK s₁.heap s'.heap ∧ s'.os = s₁.os ∧ AllBare s'.gens) s₁) :
    WalkO q loose XP YP l.row.toRowW d [] (fun f vs => PySem.call f vs) := by
  intro w s₀ s₁ mg mb G Y fa o pm cd doc dV kV ho hd hcd hD hmg hg args vals as hpre hlay hrd hwl hlo
  obtain rfl : dV = .none := Dflts.none hD hdf
  obtain rfl : kV = .none := Dflts.noKw hD
  obtain ⟨a, vs, ns, rfl, rfl, hobj, hints, hlen⟩ := script_of hn hpre hwl
  refine enter_call (codeAny_mono (call w s₀ s₁ mg mb fa o pm cd doc a vs ns G Y ho (fd_plain hd) hcd hmg hobj hints hlen hg) fun r s' hq => ?_)
  obtain ⟨rfl, h2, h3, h4⟩ := hq
  exact ⟨.inl ⟨.bool true, .bool true, [], rfl, fun _ => rfl, .bool true, post_true l _, fun _ => ⟨List.Pairwise.nil, fun _ hm => (nomatch hm)⟩⟩, h2, h3, h4⟩

/-! ### rules over ANY heap (no ledger) from facts about the written part K: the library's own take a ledger (News) for what they write -/
section
variable {prog : Program} {w : World} {A : Around} {E : Value → Shared → Prop} {s : Shared} {K : Frag}

/-! the whole heap as the ledger: makes every rule that writes through a ledger a rule over any heap -/
noncomputable def ledger (h : Heap) (L d : Addr) : List (Addr × Obj) := (List.range h.objs.size).filterMap fun a => if a = L ∨ a = d then none else (h.get? a).map fun o => (a, o)
end
end Att

namespace L2
open PySem PySem.Spec PyProof.Rows

theorem vals_ints : ∀ {vs : List Value} {ns : List Int}, IntsAre vs ns → Vals (ns.map V.int) vs
  | _, _, .nil => .nil
  | _, _, .cons n t h => .cons ⟨t, rfl⟩ (vals_ints h)

/-- nothing is tracked but the script, known to the object (or it is an object of the module) -/
noncomputable def Only (H : Hp) : Prop := ∀ b, H b = none ∨ ∃ o xs, H b = some (.frz o (.lst xs))

/-- THE HEAD: the law's promise, at the heap behind the top. F, the promise of the law's def, may use that base is part of the heap (so K.In base, base.Ns mainGlobals mg stand in Mod) -/
theorem law_call {P : Program} {w : World} {K : PySem.W.Frag} {mg mb : Str → Option Value} {CX : CXT} {k : Nat} {fa a : Addr} {fd : FuncData} {x : Str} {sp : Sp} {s₁ : Shared} {vs : List Value} {ns : List Int}
    (KX : K.In s₁.heap) (hns : s₁.heap.Ns mainGlobals mg) (hb : s₁.heap.Ns builtinsNs mb) (hbb : ∀ x : Str, x ≠ "__name__" → mb x = bootBuiltins x) (hlim : s₁.heap.NoLimit) (hg : s₁.gens = #[])
    (ha : s₁.heap.get? a = some { cls := .type "list", data := .seq vs.toArray }) (hi : IntsAre vs ns) (hl : ns.length ≤ sizeLine) (hr : Room k callerA)
    (F : ∀ base : Heap, K.In base → base.Ns mainGlobals mg → FnOk P w K mg base CX k fa fd [x] sp) (hbind : ∀ (s : Shared) (u : Value), BindsTo s fd ⟨[u], []⟩ [(x, u)])
    (hsp : ∀ H : Hp, Only H → SqL K H a (ns.map V.int) → sp [.ref a] H (fun v _ => v = .bl true) fun _ _ _ => False)
    (hCX : ∀ H e s', CX [] H s₁ (fun _ _ _ => False) e s' → False) :
    codeAny (model P w) callerA (.call (.ref fa) ⟨[.ref a], []⟩) (fun r s' => r = .ok (.ret (.bool true)) ∧ OldK s₁.heap s'.heap ∧ s'.os = s₁.os ∧ AllBare s'.gens) s₁ := by
  have rv := vals_ints hi
  have lenV := hi.length
  -- from an abstract heap in which nothing but the script may be tracked
  have core : ∀ H : Hp, Only H → SqL K H a (ns.map V.int) → HOk P w H s₁.heap → (∀ b, H b ≠ none → b = a) → (H a ≠ none → K.lookup a = none) →
      codeAny (model P w) callerA (.call (.ref fa) ⟨[.ref a], []⟩) (fun r s' => r = .ok (.ret (.bool true)) ∧ OldK s₁.heap s'.heap ∧ s'.os = s₁.os ∧ AllBare s'.gens) s₁ := by
    intro H hO hS hok hA hK
    have base_of : ∀ {b : Addr} {o : Obj}, s₁.heap.get? b = some o → H b = none → (hidT s₁.heap H).get? b = some o := fun e n => hidT_get e n
    have noA : ∀ {b : Addr} {o : Obj} {es : Array DictEntry} {ep : Nat}, s₁.heap.get? b = some o → o.data = .dict es ep → H b = none := fun {b o es ep} e d => by
      cases q : H b with
      | none => rfl
      | some u =>
        have e' : b = a := hA b (by rw [q]; simp)
        subst e'
        rw [ha] at e; cases e
        have d' : Data.seq vs.toArray _ = Data.dict es ep := d
        cases d'
    have nsK : ∀ {b : Addr} {m : Str → Option Value}, s₁.heap.Ns b m → (hidT s₁.heap H).Ns b m := fun {b m} ⟨o, es, ep, e, d, r⟩ => ⟨o, es, ep, base_of e (noA e d), d, r⟩
    have hKb : K.In (hidT s₁.heap H) := fun b o e => base_of (KX b o e) (by
      cases q : H b with
      | none => rfl
      | some u =>
        have e' : b = a := hA b (by rw [q]; simp)
        subst e'
        rw [hK (by rw [q]; simp)] at e; cases e)
    have hM : Mod K mg (hidT s₁.heap H) := ⟨hKb, nsK hns, ⟨mb, nsK hb, hbb⟩, let ⟨mc, h1, h2⟩ := hlim; ⟨mc, nsK h1, h2⟩⟩
    have e0 : Env0 P w K mg (hidT s₁.heap H) callerA [] s₁ H := ⟨rfl, hM, fun b o e => of_hidT e, Nat.le_of_eq (hidT_size _ _), trivial, fun b hb => absurd (show b ∈ ([] : List Addr) from hb) (by simp), hok, .of_eq hg⟩
    refine codeAny_mono ((F _ hKb (nsK hns)).run callerA [] s₁ H ⟨[.ref a], []⟩ [.ref a] [.ref a] _ _ hr e0 (hbind s₁ (.ref a)) (.cons rfl .nil) (hsp H hO hS)) fun r s' h => ?_
    cases r with
    | error e => exact (hCX H e s' h).elim
    | ok fl =>
      cases fl with
      | next => exact False.elim h
      | brk => exact False.elim h
      | cont => exact False.elim h
      | ret u =>
        obtain ⟨v, H', os, bare, un, hok', r', q⟩ := h
        have q' : v = .bl true := q
        subst q'
        obtain rfl : u = Value.bool true := r'
        refine ⟨rfl, OldK.of_keep fun b o e => ?_, os, bare⟩
        cases q : H b with
        | none => exact un.keep b o e q (by intro z; exact absurd (show b ∈ ([] : List Addr) from z) (by simp)) (by simp)
        | some u =>
          rcases hO b with z | ⟨ob, xs, z⟩
          · rw [q] at z; cases z
          · have z2 := un.frzs b ob _ z
            obtain ⟨e1, _⟩ := hok b _ z
            obtain ⟨e2, _⟩ := hok' b _ z2
            rw [e] at e1; cases e1
            exact e2
  cases hk : K.lookup a with
  | some o =>
    -- the script is one of the module's own objects
    have e := KX a o hk
    rw [ha] at e
    cases e
    refine core (fun _ => none) (fun _ => .inl rfl) (.inr ⟨_, vs.toArray, _, hk, rfl, rfl, rfl, by rw [List.size_toArray, lenV]; exact hl, by simpa using rv⟩) (fun b u z => by have z' : (none : Option HO) = some u := z; cases z') (fun b z => absurd rfl z) fun z => absurd rfl z
  | none =>
    refine core (fun b => if b = a then some (.frz { cls := .type "list", data := .seq vs.toArray } (.lst (ns.map V.int))) else none) (fun b => ?_) (.inl (.inr ⟨{ cls := .type "list", data := .seq vs.toArray }, if_pos rfl⟩)) (fun b u z => ?_) (fun b z => ?_) fun _ => hk
    · by_cases hb : b = a
      · exact .inr ⟨_, _, if_pos hb⟩
      · exact .inl (if_neg hb)
    · by_cases hb : b = a
      · have z' := (if_pos hb).symm.trans z
        cases z'
        subst hb
        exact ⟨ha, by rw [List.length_map]; exact hl, vs, _, rv, ha⟩
      · have z' := (if_neg hb).symm.trans z
        cases z'
    · by_cases hb : b = a
      · exact hb
      · exact absurd (if_neg hb) z
end L2

namespace L2
open PySem PySem.Spec PyProof.Rows

/-- the goal that k_head leaves (case hc), from the law's promise. F gives the function object fd (K's own) once, then the promise over every base -/
theorem walk_of {l : PySem.W.OpenLaw} {n k : Nat} {q : Program} {loose : List Str} {XP : (Str → Option Value) → Heap → Prop} {YP : World → Heap → Prop} {d : DefRec} {K : Params → PySem.W.Frag} {CX : World → CXT} {sp : World → Sp} {x : Str}
    (hn : l.most = some n) (hn2 : n ≤ sizeLine) (hdf : d.params.defaults = []) (hr : Room k callerA)
    (hY : ∀ (w : World) (h : Heap), YP w h → (K w.params).In h)
    (F : ∀ (w : World) (mg : Str → Option Value) (fa : Addr) (h : Heap), (K w.params).In h → h.Ns mainGlobals mg → mg d.name = some (.ref fa) →
      ∃ fd : FuncData, (∀ (s : Shared) (u : Value), BindsTo s fd ⟨[u], []⟩ [(x, u)]) ∧
        ∀ base : Heap, (K w.params).In base → base.Ns mainGlobals mg → FnOk l.prog w (K w.params) mg base (CX w) k fa fd [x] (sp w))
    (hsp : ∀ (w : World) (H : Hp) (a : Addr) (ns : List Int), ns.length ≤ n → Only H → SqL (K w.params) H a (ns.map V.int) → sp w [.ref a] H (fun v _ => v = .bl true) fun _ _ _ => False)
    (hCX : ∀ (w : World) (H : Hp) (s : Shared) (e : Value) (s' : Shared), CX w [] H s (fun _ _ _ => False) e s' → False) :
    PySem.W.WalkO q loose XP YP l.row.toRowW d [] (fun f vs => PySem.call f vs) := by
  refine Att.attach_call hn hdf fun w s₀ s₁ mg mb fa o pm cd doc a vs ns G Y ho hd hcd hmg hobj hints hlen hg => ?_
  have KX := hY w _ Y
  obtain ⟨fd, hb, hF⟩ := F w mg fa _ KX G.T.g hmg
  exact law_call KX G.T.g G.T.b G.T.builtins G.T.nolimit hg hobj hints (Nat.le_trans hlen hn2) hr hF hb (fun H hO hS => hsp w H a ns hlen hO hS) fun H e s' => hCX w H s₁ e s'
end L2

/-! SHORT WORDS over the layer: a def of the text, its body, what a loop and a test want. -/
namespace L2
open PySem PySem.Spec PyProof.Rows

/-! ### the text by places -/
noncomputable def defArgs (s : Stmt) : Arguments := match s with
  | .FunctionDef _ a _ _ _ _ _ _ _ _ => a
  | _ => { posonlyargs := [], args := [], vararg := none, kwonlyargs := [], kw_defaults := [], kwarg := none, defaults := [] }
noncomputable def defBody (s : Stmt) : List Stmt := match s with
  | .FunctionDef _ _ b _ _ _ _ _ _ _ => b
  | _ => []
noncomputable def defScope (s : Stmt) : Scope := match s with
  | .FunctionDef _ _ _ _ _ _ sc _ _ _ => sc
  | _ => { kind := .function, names := [], isGenerator := false, isCoroutine := false }

/-! ### no exception leaves a def -/
noncomputable abbrev CX0 : CXT := fun _ _ _ _ _ _ => False
noncomputable abbrev E0 : XK := fun _ _ _ => False
theorem pass0 {X : Cx} : Passes CX0 X E0 := fun _ _ _ _ _ _ _ h => h.elim

/-! ### a def (or method) of the text as it stands behind the top -/
structure Fun (K : PySem.W.Frag) (x qual : Str) (st : Stmt) (f : Addr) (fd : FuncData) : Prop where
  ex : ∃ (oc : Value) (od : Option Addr) (kV doc pm : Value) (an : Option Addr) (cdv ct : Value) (osl : Array (Option Value)),
    fd = PySem.W.fnOf x qual (defArgs st) (defBody st) (defScope st) .none kV doc pm an cdv ct ∧ K.lookup f = some ⟨oc, od, .func fd, osl⟩ ∧ PySem.W.codeIn K cdv qual = true
  kp : PySem.W.keepIn K (.ref f) = true
section
variable {P : Program} {w : World} {K : PySem.W.Frag} {mg : Str → Option Value} {base : Heap}
/-- THE RULE for a def: its body as a term of rules, and the reading of that term -/
theorem Fun.ok {x qual : Str} {st : Stmt} {f : Addr} {fd : FuncData} {N ps : List Str} {k : Nat} {sp : Sp} (F : Fun K x qual st f fd) (S : FnScope N ps (defScope st)) (len : ∀ vs H Q E, sp vs H Q E → vs.length = ps.length)
    (hbody : ∀ (cdv : Value) (A : Around) (outer : List Env) (s : Shared) (H : Hp) (vs : List V) (Q : VK) (E : XK), Room k (A.deeper (envOfC qual (defScope st) s.heap.objs.size f cdv)) → sp vs H Q E →
      ∃ t, PSs (cxOf CX0 P w K mg base N qual (defScope st) f cdv A outer s H E).nox (defBody st) t ∧ t { nx := fun _ H' => Q .non H', rt := Q } (start N vs) H) : FnOk P w K mg base CX0 (k + 1) f fd ps sp := by
  obtain ⟨oc, od, kV, doc, pm, an, cdv, ct, osl, rfl, lk, hcd⟩ := F.ex
  refine fn_of lk hcd S len fun A outer s H vs Q E hr hsp => ?_
  obtain ⟨t, h, q⟩ := hbody cdv A outer s H vs Q E hr hsp
  exact ⟨t, h.nox, q⟩
/-- how its arguments bind (no defaults): h is «fun _ _ _ _ _ _ us hl => match us, hl with | [_, _], _ => rfl», one _ a parameter -/
theorem Fun.binds {x qual : Str} {st : Stmt} {f : Addr} {fd : FuncData} {ps : List Str} (F : Fun K x qual st f fd)
    (h : ∀ (kV doc pm : Value) (an : Option Addr) (cdv ct : Value) (us : List Value), us.length = ps.length → bindArgs (PySem.W.fnOf x qual (defArgs st) (defBody st) (defScope st) .none kV doc pm an cdv ct) ⟨us, []⟩ = pure (ps.zip us)) : Binds K fd ps [] := by
  obtain ⟨oc, od, kV, doc, pm, an, cdv, ct, osl, rfl, lk, hcd⟩ := F.ex
  exact .all (h kV doc pm an cdv ct)
theorem fun_mk {x qual : Str} {st : Stmt} {f : Addr} {oc : Value} {od an : Option Addr} {osl : Array (Option Value)} {kV doc pm cdv ct : Value} (l : K.lookup f = some ⟨oc, od, .func (PySem.W.fnOf x qual (defArgs st) (defBody st) (defScope st) .none kV doc pm an cdv ct), osl⟩)
    (c : PySem.W.codeIn K cdv qual = true) (k : PySem.W.keepIn K (.ref f) = true) : Fun K x qual st f (PySem.W.fnOf x qual (defArgs st) (defBody st) (defScope st) .none kV doc pm an cdv ct) := ⟨⟨oc, od, kV, doc, pm, an, cdv, ct, osl, rfl, l, c⟩, k⟩
end
/-! ### expressions in short: the name that stands in the i-th slot -/
section
variable {X : Cx}
end

/-! ### tests -/
theorem iteF {A B : Prop} (h : B) : if false = true then A else B := by
  rw [if_neg Bool.false_ne_true]
  exact h
theorem iteT {A B : Prop} (h : A) : if true = true then A else B := by
  rw [if_pos rfl]
  exact h
/-! ### heaps -/
/-- all that was tracked is as it was -/
noncomputable def Same (H H' : Hp) : Prop := ∀ b o, H b = some o → H' b = some o
theorem Same.refl (H : Hp) : Same H H := fun _ _ h => h
theorem Same.trans {H H1 H2 : Hp} (a : Same H H1) (b : Same H1 H2) : Same H H2 := fun c o h => b c o (a c o h)
theorem Same.free {H H' : Hp} (e : Same H H') {l : Addr} (h : H' l = Option.none) : H l = Option.none := by
  cases q : H l with
  | none => rfl
  | some o =>
    rw [e l o q] at h
    cases h
theorem Same.seq {K : PySem.W.Frag} {H H' : Hp} {a : Addr} {xs : List V} (e : Same H H') (h : SqL K H a xs) : SqL K H' a xs := by
  rcases h with (h | ⟨o, h⟩) | h
  · exact .inl (.inl (e _ _ h))
  · exact .inl (.inr ⟨o, e _ _ h⟩)
  · exact .inr h

end L2

set_option Elab.async false
set_option linter.all false
set_option maxRecDepth 100000
set_option maxHeartbeats 1000000
namespace L2
open PySem PySem.Spec PyProof.Rows

/-! ### branches that do not unfold -/
@[irreducible] noncomputable def br (c : Bool) (A B : Prop) : Prop := if c = true then A else B
section
variable {A B p : Prop} {c : Bool}
theorem br_iff : br c A B = (if c = true then A else B) := by unfold br; rfl
theorem br_T (h : A) : br true A B := by unfold br; exact iteT h
theorem br_F (h : B) : br false A B := by unfold br; exact iteF h
theorem br_any (h1 : c = true → A) (h2 : c = false → B) : br c A B := by
  cases c with
  | true => exact br_T (h1 rfl)
  | false => exact br_F (h2 rfl)
theorem br_dec [Decidable p] (h1 : p → A) (h2 : ¬ p → B) : br (decide p) A B := br_any (fun h => h1 (of_decide_eq_true h)) fun h => h2 (of_decide_eq_false h)
theorem br_dT [Decidable p] (hp : p) (h : A) : br (decide p) A B := br_dec (fun _ => h) fun n => absurd hp n
theorem br_dF [Decidable p] (hp : ¬ p) (h : B) : br (decide p) A B := br_dec (fun n => absurd n hp) fun _ => h
theorem br_not (h : br c B A) : br (!c) A B := by
  cases c with
  | true => unfold br at h ⊢; simpa using h
  | false => unfold br at h ⊢; simpa using h
end

/-! ### heaps -/
/-- all but a is as it was -/
noncomputable def Chg (a : Addr) (H H' : Hp) : Prop := ∀ b o, b ≠ a → H b = some o → H' b = some o
theorem Chg.upd {H : Hp} {a : Addr} {o : HO} : Chg a H (upd H a o) := fun b u hb e => by rw [upd_ne hb]; exact e
theorem Same.upd {H : Hp} {a : Addr} {o : HO} (h : H a = none) : Same H (L2.upd H a o) := fun b u e => by rw [upd_ne (ne_of_none e h)]; exact e
theorem Same.chg {H0 H H' : Hp} {a : Addr} (s : Same H0 H) (n : H0 a = none) (c : Chg a H H') : Same H0 H' := fun b o e => c b o (ne_of_none e n) (s b o e)
theorem Chg.refl (a : Addr) (H : Hp) : Chg a H H := fun _ _ _ e => e
theorem Chg.trans {H H1 H2 : Hp} {a : Addr} (x : Chg a H H1) (y : Chg a H1 H2) : Chg a H H2 := fun b o h e => y b o h (x b o h e)
theorem Chg.same {H H1 H2 : Hp} {a : Addr} (x : Chg a H H1) (y : Same H1 H2) : Chg a H H2 := fun b o h e => y b o (x b o h e)
theorem Same.toChg {H H1 : Hp} {a : Addr} (x : Same H H1) : Chg a H H1 := fun b o _ e => x b o e
theorem Same.at {H H' : Hp} {b : Addr} {o : HO} (s : Same H H') (e : H b = some o) : H' b = some o := s b o e
theorem Chg.at {H H' : Hp} {a b : Addr} {o : HO} (s : Chg a H H') (e : H b = some o) (n : b ≠ a) : H' b = some o := s b o n e
/-! ### names -/
noncomputable def qV (i : Nat) : TE := fun σ H Q => match σ[i]? with
  | some (some v) => Q v H
  | _ => False
section
variable {X : Cx}
theorem pq (i : Nat) {x : Str} {pos : Pos} (hN : X.N[i]? = some x := by rfl) (hv : Vis X.env.scope x := by first | exact Or.inl rfl | exact Or.inr (Or.inl rfl) | exact Or.inr (Or.inr rfl)) (hd : (x == ("__debug__" : Str)) = false := by decide)
    (hcd : (x == ("__classdict__" : Str)) = false := by decide) : PE X (.Name x pos) (qV i) := fun pins s σ H Q I h => by
  refine pe_var hN hv hd hcd pins s σ H Q I ?_
  unfold qV at h
  split at h
  · rename_i v e
    exact ⟨v, e, h⟩
  · exact h.elim

/-! ### arithmetic -/
@[irreducible] noncomputable def rMulI (i j : Int) (H : Hp) (Q : VK) : Prop := IntMulOk i j ∧ Q (.int (i * j)) H
@[irreducible] noncomputable def rDivI (i j : Int) (H : Hp) (Q : VK) : Prop := (j ≠ 0 ∧ j.natAbs.log2 < 9000) ∧ Q (.int (i.fdiv j)) H
@[irreducible] noncomputable def rModI (i j : Int) (H : Hp) (Q : VK) : Prop := j ≠ 0 ∧ Q (.int (i.fmod j)) H
@[irreducible] noncomputable def rPowI (i j : Int) (H : Hp) (Q : VK) : Prop := CPow i j ∧ Q (.int (i ^ j.toNat)) H
@[irreducible] noncomputable def rCatL (a b : Addr) (H : Hp) (Q : VK) : Prop := ∃ xs zs, H a = some (.lst xs) ∧ H b = some (.lst zs) ∧ xs.length + zs.length ≤ sizeLine ∧
  ∀ p H', H p = none → Same H H' → H' p = some (.lst (xs ++ zs)) → Q (.ref p) H'
@[irreducible] noncomputable def rRepL (a : Addr) (k : Int) (H : Hp) (Q : VK) : Prop := ∃ xs, H a = some (.lst xs) ∧ -(2 ^ 63) ≤ k ∧ k < 2 ^ 63 ∧ xs.length * k.toNat ≤ sizeLine ∧
  ∀ p H', H p = none → Same H H' → H' p = some (.lst (List.replicate k.toNat xs).flatten) → Q (.ref p) H'
noncomputable def rAddM : R2 := fun x y H Q => match x, y with
  | .int i, .int j => Q (.int (i + j)) H
  | .ref a, .ref b => rCatL a b H Q
  | .str a, .str b => a.length + b.length ≤ sizeLine ∧ Q (.str (a ++ b)) H
  | _, _ => False
noncomputable def rSubM : R2 := fun x y H Q => match x, y with
  | .int i, .int j => Q (.int (i - j)) H
  | _, _ => False
noncomputable def rMulM : R2 := fun x y H Q => match x, y with
  | .int i, .int j => rMulI i j H Q
  | .ref a, .int k => rRepL a k H Q
  | _, _ => False
noncomputable def rDivM : R2 := fun x y H Q => match x, y with
  | .int i, .int j => rDivI i j H Q
  | _, _ => False
noncomputable def rModM : R2 := fun x y H Q => match x, y with
  | .int i, .int j => rModI i j H Q
  | _, _ => False
noncomputable def rPowM : R2 := fun x y H Q => match x, y with
  | .int i, .int j => rPowI i j H Q
  | _, _ => False
theorem oAdd : OpR X (binaryOp .Add) rAddM := by
  intro pins s σ H x y v u Q I rx ry h
  unfold rAddM at h
  split at h
  · exact op_add pins s σ H _ _ v u Q I rx ry ⟨_, _, rfl, rfl, h⟩
  · unfold rCatL at h
    obtain ⟨xs, zs, h1, h2, h3, h4⟩ := h
    exact op_cat pins s σ H _ _ v u Q I rx ry ⟨_, _, xs, zs, rfl, rfl, h1, h2, h3, fun p hp => h4 p _ hp (Same.upd hp) upd_same⟩
  · exact op_add_str pins s σ H _ _ v u Q I rx ry ⟨_, _, rfl, rfl, h.1, h.2⟩
  · exact h.elim
theorem oSub : OpR X (binaryOp .Sub) rSubM := by
  intro pins s σ H x y v u Q I rx ry h
  unfold rSubM at h
  split at h
  · exact op_sub pins s σ H _ _ v u Q I rx ry ⟨_, _, rfl, rfl, h⟩
  · exact h.elim
theorem oMul : OpR X (binaryOp .Mult) rMulM := by
  intro pins s σ H x y v u Q I rx ry h
  unfold rMulM at h
  split at h
  · unfold rMulI at h
    obtain ⟨t, rfl⟩ := rx
    obtain ⟨t', rfl⟩ := ry
    exact mul_int ⟨.int _, H, I.tok _, ⟨_, rfl⟩, h.2⟩ h.1
  · unfold rRepL at h
    obtain ⟨xs, h1, h2, h3, h4, h5⟩ := h
    exact op_rep pins s σ H _ _ v u Q I rx ry ⟨_, _, xs, rfl, rfl, h1, h2, h3, h4, fun p hp => h5 p _ hp (Same.upd hp) upd_same⟩
  · exact h.elim
theorem oDiv : OpR X (binaryOp .FloorDiv) rDivM := by
  intro pins s σ H x y v u Q I rx ry h
  unfold rDivM at h
  split at h
  · unfold rDivI at h
    obtain ⟨⟨h1, h2⟩, h3⟩ := h
    obtain ⟨t, rfl⟩ := rx
    obtain ⟨t', rfl⟩ := ry
    exact floordiv_int h1 ⟨.int _, H, I.tok _, ⟨_, rfl⟩, h3⟩ (.inl (PyProof.noPylong_of_log2 h2))
  · exact h.elim
theorem oMod : OpR X (binaryOp .Mod) rModM := by
  intro pins s σ H x y v u Q I rx ry h
  unfold rModM at h
  split at h
  · unfold rModI at h
    exact op_modN pins s σ H _ _ v u Q I rx ry ⟨_, _, rfl, rfl, h.1, h.2⟩
  · exact h.elim
theorem oPow : OpR X (binaryOp .Pow) rPowM := by
  intro pins s σ H x y v u Q I rx ry h
  unfold rPowM at h
  split at h
  · unfold rPowI at h
    exact op_pow pins s σ H _ _ v u Q I rx ry ⟨_, _, rfl, rfl, h.1, h.2⟩
  · exact h.elim
noncomputable def rNegM : V → Hp → VK → Prop := fun x H Q => match x with
  | .int i => Q (.int (-i)) H
  | _ => False
theorem uNeg : UnR X (unaryOp .USub) rNegM := by
  intro pins s σ H x v Q I rx h
  unfold rNegM at h
  split at h
  · exact un_neg pins s σ H _ v Q I rx ⟨_, rfl, h⟩
  · exact h.elim

/-! how they are read -/
section
variable {i j : Int} {H : Hp} {Q : VK}
theorem mul_rd (h : IntMulOk i j) (q : Q (.int (i * j)) H) : rMulI i j H Q := by unfold rMulI; exact ⟨h, q⟩
theorem log2_lt {n k : Nat} (h : n < 2 ^ k) (hk : 0 < k) : n.log2 < k := by
  by_cases h0 : n = 0
  · subst h0; simpa using hk
  · exact (Nat.log2_lt h0).mpr h
theorem big9000 {j : Int} (h1 : -(10 ^ 240) < j) (h2 : j < 10 ^ 240) : j.natAbs < 2 ^ 2000 := by
  have e : (10 : Int) ^ 240 = ((10 ^ 240 : Nat) : Int) := by norm_cast
  have e2 : (10 : Nat) ^ 240 < 2 ^ 2000 := by decide +kernel
  rw [e] at h1 h2
  generalize hN : (10 : Nat) ^ 240 = N at h1 h2 e2
  generalize hM : (2 : Nat) ^ 2000 = M at e2
  omega
theorem div_rd (h1 : 0 < j) (h2 : j < 10 ^ 240) (q : Q (.int (i / j)) H) : rDivI i j H Q := by
  unfold rDivI
  refine ⟨⟨by omega, ?_⟩, ?_⟩
  · have h := log2_lt (big9000 (j := j) (by have : (0 : Int) < 10 ^ 240 := by decide +kernel
                                            generalize (10 : Int) ^ 240 = N at this; omega) h2) (by decide)
    omega
  · rw [Int.fdiv_eq_ediv_of_nonneg _ (by omega)]; exact q
theorem mod_rd (h1 : 0 < j) (q : Q (.int (i % j)) H) : rModI i j H Q := by
  unfold rModI
  refine ⟨by omega, ?_⟩
  rw [Int.fmod_eq_emod_of_nonneg _ (by omega)]; exact q
theorem pow_rd (h : CPow i j) (q : Q (.int (i ^ j.toNat)) H) : rPowI i j H Q := by unfold rPowI; exact ⟨h, q⟩
theorem cat_rd {a b : Addr} {xs zs : List V} (h1 : H a = some (.lst xs)) (h2 : H b = some (.lst zs)) (h3 : xs.length + zs.length ≤ sizeLine)
    (q : ∀ p H', H p = none → Same H H' → H' p = some (.lst (xs ++ zs)) → Q (.ref p) H') : rCatL a b H Q := by unfold rCatL; exact ⟨xs, zs, h1, h2, h3, q⟩
end

/-! ### comparisons -/
noncomputable def rLtM : R2 := fun x y H Q => match x, y with
  | .int i, .int j => Q (.bl (decide (i < j))) H
  | _, _ => False
noncomputable def rLeM : R2 := fun x y H Q => match x, y with
  | .int i, .int j => Q (.bl (decide (i ≤ j))) H
  | _, _ => False
noncomputable def rGtM : R2 := fun x y H Q => match x, y with
  | .int i, .int j => Q (.bl (decide (j < i))) H
  | _, _ => False
noncomputable def rGeM : R2 := fun x y H Q => match x, y with
  | .int i, .int j => Q (.bl (decide (j ≤ i))) H
  | _, _ => False
theorem oLt : OpR X (compareOp .Lt) rLtM := by
  intro pins s σ H x y v u Q I rx ry h
  unfold rLtM at h
  split at h
  · exact op_lt pins s σ H _ _ v u Q I rx ry ⟨_, _, rfl, rfl, h⟩
  · exact h.elim
theorem oLe : OpR X (compareOp .LtE) rLeM := by
  intro pins s σ H x y v u Q I rx ry h
  unfold rLeM at h
  split at h
  · exact op_le pins s σ H _ _ v u Q I rx ry ⟨_, _, rfl, rfl, h⟩
  · exact h.elim
theorem oGt : OpR X (compareOp .Gt) rGtM := by
  intro pins s σ H x y v u Q I rx ry h
  unfold rGtM at h
  split at h
  · exact op_gt pins s σ H _ _ v u Q I rx ry ⟨_, _, rfl, rfl, h⟩
  · exact h.elim
theorem oGe : OpR X (compareOp .GtE) rGeM := by
  intro pins s σ H x y v u Q I rx ry h
  unfold rGeM at h
  split at h
  · exact op_ge pins s σ H _ _ v u Q I rx ry ⟨_, _, rfl, rfl, h⟩
  · exact h.elim
/-- == of two things, to a depth n -/
inductive EqR (K : PySem.W.Frag) (H : Hp) : Nat → V → V → Bool → Prop where
  | flat {n : Nat} {x y : V} (fx : flatV x = true) (fy : flatV y = true) : EqR K H n x y (eqV x y)
  | tup {n : Nat} {a b : Addr} {xs ys : List V} (e : Nat → Bool) (ha : SqT K H a xs) (hb : SqT K H b ys) (h : ∀ (j : Nat) (x y : V), xs[j]? = some x → ys[j]? = some y → EqR K H n x y (e j)) :
      EqR K H (n + 1) (.ref a) (.ref b) ((List.range (min xs.length ys.length)).all e && xs.length == ys.length)
  | lst {n : Nat} {a b : Addr} {xs ys : List V} (e : Nat → Bool) (ha : SqL K H a xs) (hb : SqL K H b ys) (hl : xs.length = ys.length) (h : ∀ (j : Nat) (x y : V), xs[j]? = some x → ys[j]? = some y → EqR K H n x y (e j)) :
      EqR K H (n + 1) (.ref a) (.ref b) ((List.range xs.length).all e)
  | lstN {n : Nat} {a b : Addr} {xs ys : List V} (ha : SqL K H a xs) (hb : SqL K H b ys) (hl : xs.length ≠ ys.length) : EqR K H (n + 1) (.ref a) (.ref b) false
theorem eqV_self {x : V} (f : flatV x = true) : eqV x x = true := by
  cases x <;> first | rfl | (simp [eqV]; done) | exact absurd (show false = true from f) Bool.false_ne_true
section
variable {pins : List (Addr × Obj)} {σ : St} {H : Hp} {s : Shared}
theorem EqR.self (I : Inv X pins σ H s) {n : Nat} {x y : V} {b : Bool} (h : EqR X.K H n x y b) : x = y → b = true := by
  induction h with
  | flat fx fy => rintro rfl; exact eqV_self fx
  | tup e ha hb h ih =>
    intro q
    cases q
    have q := I.tuple_inj ha hb
    subst q
    rw [Nat.min_self, Bool.and_eq_true]
    refine ⟨List.all_eq_true.mpr fun j hj => ?_, by simp⟩
    have hj := List.mem_range.mp hj
    exact ih j _ _ (List.getElem?_eq_getElem hj) (List.getElem?_eq_getElem hj) rfl
  | lst e ha hb hl h ih =>
    intro q
    cases q
    have q := I.list_inj ha hb
    subst q
    refine List.all_eq_true.mpr fun j hj => ?_
    have hj := List.mem_range.mp hj
    exact ih j _ _ (List.getElem?_eq_getElem hj) (List.getElem?_eq_getElem hj) rfl
  | lstN ha hb hl =>
    intro q
    cases q
    exact absurd (congrArg List.length (I.list_inj ha hb)) hl
theorem in1_units (A : Around) : A.in1.units = A.units + 1 := rfl
mutual
theorem EqR.at (I : Inv X pins σ H s) : ∀ {n : Nat} {x y : V} {b : Bool}, EqR X.K H n x y b → ∀ {u v : Value} {A : Around}, RelV x u → RelV y v → A.units + n < cLine → SeqAt.EqAt A s u v b
  | _, _, _, _, .flat fx fy, u, v, A, rx, ry, _ => eqAt_V rx ry fx fy
  | _, .ref a, .ref b, _, h, u, v, A, rx, ry, hu => by
    cases rx
    cases ry
    by_cases e : a = b
    · subst e
      rw [h.self I rfl]
      exact SeqAt.EqAt.same _
    · exact SeqAt.EqAt.of_refs e (EqR.rc I h hu)
theorem EqR.rc (I : Inv X pins σ H s) : ∀ {n : Nat} {a b : Addr} {c : Bool}, EqR X.K H n (.ref a) (.ref b) c → ∀ {A : Around}, A.units + n < cLine → SeqAt.RcAt A s (.ref a) (.ref b) c
  | _, _, _, _, .flat fx _, _, _ => absurd (show false = true from fx) Bool.false_ne_true
  | _, a, b, _, .tup (xs := xs) (ys := ys) e ha hb h, A, hu => by
    obtain ⟨its, r1, t1, z1⟩ := I.tuple ha
    obtain ⟨its2, r2, t2, z2⟩ := I.tuple hb
    have l1 : its.toArray.size = xs.length := by rw [List.size_toArray]; exact r1.length.symm
    have l2 : its2.toArray.size = ys.length := by rw [List.size_toArray]; exact r2.length.symm
    have q := SeqAt.RcAt.tuples (A := A) (e := e) t1 t2 (by omega) fun j h1 h2 => by
      rw [l1] at h1
      rw [l2] at h2
      obtain ⟨u1, e1, q1⟩ := r1.get (List.getElem?_eq_getElem h1)
      obtain ⟨u2, e2, q2⟩ := r2.get (List.getElem?_eq_getElem h2)
      have i1 : its.toArray[j] = u1 := by
        have := (List.getElem?_eq_some_iff.mp e1).2
        simpa using this
      have i2 : its2.toArray[j] = u2 := by
        have := (List.getElem?_eq_some_iff.mp e2).2
        simpa using this
      rw [i1, i2]
      exact EqR.at I (h j _ _ (List.getElem?_eq_getElem h1) (List.getElem?_eq_getElem h2)) q1 q2 (by rw [in1_units]; omega)
    rw [l1, l2] at q
    exact q
  | _, a, b, _, .lst (xs := xs) (ys := ys) e ha hb hl h, A, hu => by
    obtain ⟨its, r1, t1, z1⟩ := I.list ha
    obtain ⟨its2, r2, t2, z2⟩ := I.list hb
    have l1 : its.toArray.size = xs.length := by rw [List.size_toArray]; exact r1.length.symm
    have l2 : its2.toArray.size = ys.length := by rw [List.size_toArray]; exact r2.length.symm
    have q := SeqAt.RcAt.lists (A := A) (e := e) t1.isList t2.isList (by rw [l1, l2]; exact hl) (by omega) fun j h1 h2 => by
      rw [l1] at h1
      rw [l2] at h2
      obtain ⟨u1, e1, q1⟩ := r1.get (List.getElem?_eq_getElem h1)
      obtain ⟨u2, e2, q2⟩ := r2.get (List.getElem?_eq_getElem h2)
      have i1 : its.toArray[j] = u1 := by
        have := (List.getElem?_eq_some_iff.mp e1).2
        simpa using this
      have i2 : its2.toArray[j] = u2 := by
        have := (List.getElem?_eq_some_iff.mp e2).2
        simpa using this
      rw [i1, i2]
      exact EqR.at I (h j _ _ (List.getElem?_eq_getElem h1) (List.getElem?_eq_getElem h2)) q1 q2 (by rw [in1_units]; omega)
    rw [l1] at q
    exact q
  | _, a, b, _, .lstN (xs := xs) (ys := ys) ha hb hl, A, hu => by
    obtain ⟨its, r1, t1, z1⟩ := I.list ha
    obtain ⟨its2, r2, t2, z2⟩ := I.list hb
    have l1 : its.toArray.size = xs.length := by rw [List.size_toArray]; exact r1.length.symm
    have l2 : its2.toArray.size = ys.length := by rw [List.size_toArray]; exact r2.length.symm
    exact SeqAt.RcAt.lists_lengths t1.isList t2.isList (by rw [l1, l2]; simpa using hl) (by omega)
end
theorem EqR.rcNe (I : Inv X pins σ H s) : ∀ {n : Nat} {a b : Addr} {c : Bool}, EqR X.K H n (.ref a) (.ref b) c → ∀ {A : Around}, A.units + n < cLine → SeqAt.RcNeAt A s (.ref a) (.ref b) (!c)
  | _, _, _, _, .flat fx _, _, _ => absurd (show false = true from fx) Bool.false_ne_true
  | _, a, b, _, .tup (xs := xs) (ys := ys) e ha hb h, A, hu => by
    obtain ⟨its, r1, t1, z1⟩ := I.tuple ha
    obtain ⟨its2, r2, t2, z2⟩ := I.tuple hb
    have l1 : its.toArray.size = xs.length := by rw [List.size_toArray]; exact r1.length.symm
    have l2 : its2.toArray.size = ys.length := by rw [List.size_toArray]; exact r2.length.symm
    have q := SeqAt.RcNeAt.tuples (A := A) (e := e) t1 t2 (by omega) fun j h1 h2 => by
      rw [l1] at h1
      rw [l2] at h2
      obtain ⟨u1, e1, q1⟩ := r1.get (List.getElem?_eq_getElem h1)
      obtain ⟨u2, e2, q2⟩ := r2.get (List.getElem?_eq_getElem h2)
      have i1 : its.toArray[j] = u1 := by
        have := (List.getElem?_eq_some_iff.mp e1).2
        simpa using this
      have i2 : its2.toArray[j] = u2 := by
        have := (List.getElem?_eq_some_iff.mp e2).2
        simpa using this
      rw [i1, i2]
      exact EqR.at I (h j _ _ (List.getElem?_eq_getElem h1) (List.getElem?_eq_getElem h2)) q1 q2 (by rw [in1_units]; omega)
    rw [l1, l2] at q
    exact q
  | _, a, b, _, .lst (xs := xs) (ys := ys) e ha hb hl h, A, hu => by
    obtain ⟨its, r1, t1, z1⟩ := I.list ha
    obtain ⟨its2, r2, t2, z2⟩ := I.list hb
    have l1 : its.toArray.size = xs.length := by rw [List.size_toArray]; exact r1.length.symm
    have l2 : its2.toArray.size = ys.length := by rw [List.size_toArray]; exact r2.length.symm
    have q := SeqAt.RcNeAt.lists (A := A) (e := e) t1.isList t2.isList (by rw [l1, l2]; exact hl) (by omega) fun j h1 h2 => by
      rw [l1] at h1
      rw [l2] at h2
      obtain ⟨u1, e1, q1⟩ := r1.get (List.getElem?_eq_getElem h1)
      obtain ⟨u2, e2, q2⟩ := r2.get (List.getElem?_eq_getElem h2)
      have i1 : its.toArray[j] = u1 := by
        have := (List.getElem?_eq_some_iff.mp e1).2
        simpa using this
      have i2 : its2.toArray[j] = u2 := by
        have := (List.getElem?_eq_some_iff.mp e2).2
        simpa using this
      rw [i1, i2]
      exact EqR.at I (h j _ _ (List.getElem?_eq_getElem h1) (List.getElem?_eq_getElem h2)) q1 q2 (by rw [in1_units]; omega)
    rw [l1] at q
    exact q
  | _, a, b, _, .lstN (xs := xs) (ys := ys) ha hb hl, A, hu => by
    obtain ⟨its, r1, t1, z1⟩ := I.list ha
    obtain ⟨its2, r2, t2, z2⟩ := I.list hb
    have l1 : its.toArray.size = xs.length := by rw [List.size_toArray]; exact r1.length.symm
    have l2 : its2.toArray.size = ys.length := by rw [List.size_toArray]; exact r2.length.symm
    exact SeqAt.RcNeAt.lists_lengths t1.isList t2.isList (by rw [l1, l2]; simpa using hl) (by omega)
end
@[irreducible] noncomputable def rEqO (K : PySem.W.Frag) (a b : Addr) (H : Hp) (Q : VK) : Prop := ∃ n c, n ≤ 40 ∧ EqR K H n (.ref a) (.ref b) c ∧ Q (.bl c) H
noncomputable def rEqM (K : PySem.W.Frag) : R2 := fun x y H Q => match x, y with
  | .int i, .int j => Q (.bl (decide (i = j))) H
  | .bl i, .bl j => Q (.bl (decide (i = j))) H
  | .str i, .str j => Q (.bl (decide (i = j))) H
  | .ref a, .ref b => rEqO K a b H Q
  | x, y => scal x y = true ∧ Q (.bl (decide (x = y))) H
noncomputable def rNeM (K : PySem.W.Frag) : R2 := fun x y H Q => rEqM K x y H fun v H' => match v with
  | .bl b => Q (.bl (!b)) H'
  | _ => False
theorem dec_inj {α β : Type} [DecidableEq α] [DecidableEq β] {f : α → β} (hf : ∀ a b, f a = f b → a = b) (a b : α) : decide (f a = f b) = decide (a = b) := by
  by_cases h : a = b
  · subst h; simp
  · rw [decide_eq_false h, decide_eq_false fun e => h (hf _ _ e)]
theorem oEq (hu : X.A.units + 40 < cLine) : OpR X (compareOp .Eq) (rEqM X.K) := by
  intro pins s σ H x y v u Q I rx ry h
  unfold rEqM at h
  split at h
  · rename_i i j
    exact op_eq pins s σ H _ _ v u Q I rx ry ⟨rfl, by rw [dec_inj (f := V.int) fun a b e => V.int.inj e]; exact h⟩
  · exact op_eq pins s σ H _ _ v u Q I rx ry ⟨rfl, by rw [dec_inj (f := V.bl) fun a b e => V.bl.inj e]; exact h⟩
  · exact op_eq pins s σ H _ _ v u Q I rx ry ⟨rfl, by rw [dec_inj (f := V.str) fun a b e => V.str.inj e]; exact h⟩
  · unfold rEqO at h
    obtain ⟨n, c, hn, h1, h2⟩ := h
    cases rx
    cases ry
    exact EqR.rc I h1 (A := X.A) (by omega) _ _ _ _ ⟨.bl c, H, I, rfl, h2⟩
  · exact op_eq pins s σ H _ _ v u Q I rx ry h
theorem oNe (hu : X.A.units + 40 < cLine) : OpR X (compareOp .NotEq) (rNeM X.K) := by
  intro pins s σ H x y v u Q I rx ry h
  unfold rNeM rEqM at h
  split at h
  · rename_i i j
    exact op_ne pins s σ H _ _ v u Q I rx ry ⟨rfl, by rw [dec_inj (f := V.int) fun a b e => V.int.inj e]; exact h⟩
  · exact op_ne pins s σ H _ _ v u Q I rx ry ⟨rfl, by rw [dec_inj (f := V.bl) fun a b e => V.bl.inj e]; exact h⟩
  · exact op_ne pins s σ H _ _ v u Q I rx ry ⟨rfl, by rw [dec_inj (f := V.str) fun a b e => V.str.inj e]; exact h⟩
  · unfold rEqO at h
    obtain ⟨n, c, hn, h1, h2⟩ := h
    cases rx
    cases ry
    exact EqR.rcNe I h1 (A := X.A) (by omega) _ _ _ _ ⟨.bl (!c), H, I, rfl, h2⟩
  · exact op_ne pins s σ H _ _ v u Q I rx ry ⟨h.1, h.2⟩
section
variable {K : PySem.W.Frag} {H : Hp} {Q : VK} {a b : Addr} {c : Bool} {n : Nat}
end

/-! ### tests, and, or, not, if -/
/-- a value's truth -/
noncomputable def qB (t : TE) : TT := fun σ H Q => t σ H fun x H1 => match x with
  | .bl c => Q c H1
  | .int i => Q (!decide (i = 0)) H1
  | _ => False
theorem ptV {e : Expr} {t : TE} (h : PE X e t) (he : ∀ whole, isTrue e X.env whole = (do let v ← whole; standAt e.pos; holding [v] (truthy v)) := by intro _; rfl) : PT X e (qB t) := fun pins s σ H Q I hw => by
  refine isTrue_plain (thn (h pins s σ H _ I hw) fun v s1 ⟨x, H1, I1, r1, q1⟩ => ?_) (he _)
  dsimp only at q1
  split at q1
  · exact tru_ok pins s1 σ H1 _ v Q I1 r1 ⟨_, rfl, q1⟩
  · rename_i i
    refine tru_ok pins s1 σ H1 _ v Q I1 r1 ⟨_, rfl, ?_⟩
    have e : (i != 0) = !decide (i = 0) := by by_cases h : i = 0 <;> simp [h]
    rw [e]; exact q1
  · exact q1.elim
theorem ptC {a b : Expr} {ta tb : TE} {pos : Pos} {op : CmpOp} {r : R2} (ho : OpR X (compareOp op) r) (ha : PE X a ta) (hb : PE X b tb) (hm : behindInMarks op b = false := by first | exact nomark _ | with_unfolding_all rfl) : PT X (.Compare a [op] [b] pos) (qB (tOp r ta tb)) := by
  intro pins s σ H Q I h
  refine wpAny_isTrue_Compare1 (thn (ha pins s σ H _ I h) fun v s1 ⟨x, H1, I1, r1, q1⟩ => thn (hb pins s1 σ H1 _ I1 q1) fun u s2 ⟨y, H2, I2, r2, q2⟩ =>
    thn (ho pins s2 σ H2 x y v u _ I2 r1 r2 q2) fun c s3 ⟨z, H3, I3, r3, q3⟩ => ?_) hm
  dsimp only at q3
  split at q3
  · cases r3
    exact wpAny_truthy_bool ⟨H3, I3, q3⟩
  · rename_i i
    refine tru_ok pins s3 σ H3 _ c Q I3 r3 ⟨_, rfl, ?_⟩
    have e : (i != 0) = !decide (i = 0) := by by_cases h : i = 0 <;> simp [h]
    rw [e]; exact q3
  · exact q3.elim
theorem peC {a b : Expr} {ta tb : TE} {pos : Pos} {op : CmpOp} {r : R2} (ho : OpR X (compareOp op) r) (ha : PE X a ta) (hb : PE X b tb) (hm : behindInMarks op b = false := by first | exact nomark _ | with_unfolding_all rfl) : PE X (.Compare a [op] [b] pos) (tOp r ta tb) :=
  pe_cmpR ho ha hb hm

variable {a b : Expr} {rest : List Expr} {tA tB' : TT} {ta tb : TE} {pos : Pos}
noncomputable def qAnd (t u : TT) : TT := fun σ H Q => t σ H fun c H1 => br c (u σ H1 Q) (Q false H1)
noncomputable def qOr (t u : TT) : TT := fun σ H Q => t σ H fun c H1 => br c (Q true H1) (u σ H1 Q)
theorem pwAnd (ha : PT X a tA) (hb : PW X (.BoolOp .And (b :: rest) pos) tB') : PW X (.BoolOp .And (a :: b :: rest) pos) (qAnd tA tB') := fun wh pins s σ H Q I h =>
  pw_and ha hb wh pins s σ H Q I (by unfold qAnd at h; simp only [br_iff] at h; exact h)
theorem pwOr (ha : PT X a tA) (hb : PW X (.BoolOp .Or (b :: rest) pos) tB') : PW X (.BoolOp .Or (a :: b :: rest) pos) (qOr tA tB') := fun wh pins s σ H Q I h =>
  pw_or ha hb wh pins s σ H Q I (by unfold qOr at h; simp only [br_iff] at h; exact h)
noncomputable def qAndV (ta tb : TE) : TE := fun σ H Q => ta σ H fun x H1 => match x with
  | .bl c => br c (tb σ H1 Q) (Q (.bl false) H1)
  | _ => False
noncomputable def qOrV (ta tb : TE) : TE := fun σ H Q => ta σ H fun x H1 => match x with
  | .bl c => br c (Q (.bl true) H1) (tb σ H1 Q)
  | _ => False
noncomputable def qNotV (ta : TE) : TE := fun σ H Q => ta σ H fun x H1 => match x with
  | .bl c => Q (.bl (!c)) H1
  | _ => False
theorem peAnd (ha : PE X a ta) (hb : PE X (.BoolOp .And (b :: rest) pos) tb) : PE X (.BoolOp .And (a :: b :: rest) pos) (qAndV ta tb) := by
  intro pins s σ H Q I h
  refine BoolOp_and (thn (ha pins s σ H _ I h) fun v s1 ⟨x, H1, I1, r1, q1⟩ => ?_)
  dsimp only at q1
  split at q1
  · rename_i c
    cases r1
    refine wpAny_truthy_bool ?_
    rw [br_iff] at q1
    cases c with
    | true => exact hb pins s1 σ H1 Q I1 (by simpa using q1)
    | false => exact ⟨.bl false, H1, I1, rfl, by simpa using q1⟩
  · exact q1.elim
theorem peOr (ha : PE X a ta) (hb : PE X (.BoolOp .Or (b :: rest) pos) tb) : PE X (.BoolOp .Or (a :: b :: rest) pos) (qOrV ta tb) := by
  intro pins s σ H Q I h
  refine BoolOp_or (thn (ha pins s σ H _ I h) fun v s1 ⟨x, H1, I1, r1, q1⟩ => ?_)
  dsimp only at q1
  split at q1
  · rename_i c
    cases r1
    refine wpAny_truthy_bool ?_
    rw [br_iff] at q1
    cases c with
    | false => exact hb pins s1 σ H1 Q I1 (by simpa using q1)
    | true => exact ⟨.bl true, H1, I1, rfl, by simpa using q1⟩
  · exact q1.elim
theorem peNot (ha : PE X a ta) : PE X (.UnaryOp .Not a pos) (qNotV ta) := by
  intro pins s σ H Q I h
  refine UnaryOp_ (thn (ha pins s σ H _ I h) fun v s1 ⟨x, H1, I1, r1, q1⟩ => ?_)
  dsimp only at q1
  split at q1
  · rename_i c
    cases r1
    exact not_of (wpAny_truthy_bool ⟨.bl (!c), H1, I1, rfl, q1⟩)
  · exact q1.elim
noncomputable def qIf (t : TT) (ta tb : TE) : TE := fun σ H Q => t σ H fun c H1 => br c (ta σ H1 Q) (tb σ H1 Q)
theorem peIf {c : Expr} (hc : PT X c tA) (ha : PE X a ta) (hb : PE X b tb) : PE X (.IfExp c a b pos) (qIf tA ta tb) := fun pins s σ H Q I h =>
  pe_ifExp hc ha hb pins s σ H Q I (by unfold qIf at h; simp only [br_iff] at h; exact h)
/-! ### statements -/
variable {st : Stmt} {t u : TS} {e : Expr} {te : TE}
noncomputable def qIfS (c : TT) (t u : TS) : TS := fun D σ H => c σ H fun b H1 => br b (t D σ H1) (u D σ H1)
theorem psIf {c : Expr} {a b : List Stmt} {tc : TT} (hc : PT X c tc) (ha : PSs X a t) (hb : PSs X b u) : PS X (.If c a b pos) (qIfS tc t u) := fun pins s σ H D I h =>
  ps_if hc ha hb pins s σ H D I (by unfold qIfS at h; simp only [br_iff] at h; exact h)
@[irreducible] noncomputable def loopW (J : It) (g : TG) (tb : TS) (D : Ends) (σ : St) (H1 : Hp) : Prop := ∃ W : Nat → Nat → St → Hp → Prop, (∃ m, W 0 m σ H1) ∧ ∀ i m σ H, W i m σ H →
  (J.stop i H ∧ D.nx σ H) ∨ (J.go i H ∧ ∃ N : St → Hp → Prop, (∀ σ' H', N σ' H' → ∃ m', m' < m ∧ W (i + 1) m' σ' H') ∧ ∀ x H', J.yld i H x H' → g x σ H' fun σ2 H2 => tb { D with nx := N, ct := N, bk := D.nx } σ2 H2)
noncomputable def qFor (wi : TI) (g : TG) (tb : TS) : TS := fun D σ H => wi σ H fun J H1 => loopW J g tb D σ H1
theorem psFor {iter tg : Expr} {body : List Stmt} {wi : TI} {g : TG} {tb : TS} {pos : Pos} (hp : PassesOwn (model X.prog X.w) X.A X.env X.xe) (hc : X.calm = true) (hi : PI X tg iter wi) (hg : PG X tg g) (hb : PSs X body tb)
    (hs : ∀ x, foldedSetIterable iter X.env x = pure x := by intro _; rfl) : PS X (.For tg iter body [] pos) (qFor wi g tb) := fun pins s σ H D I h =>
  ps_for hp hc hi hg hb hs pins s σ H D I (by unfold qFor at h; unfold loopW at h; exact h)
@[irreducible] noncomputable def rIter (K : PySem.W.Frag) (a : Addr) (H : Hp) (R : It → Hp → Prop) : Prop := ((∃ xs, SqL K H a xs) ∧ R (Itl K a) H) ∨ ((∃ xs, SqT K H a xs) ∧ R (Itt K a) H)
noncomputable def qiSeq (K : PySem.W.Frag) (tl : TE) : TI := fun σ H R => tl σ H fun x H1 => match x with
  | .ref a => rIter K a H1 R
  | _ => False
theorem piSeq {tg l : Expr} {tl : TE} (hl : PE X l tl) : PI X tg l (qiSeq X.K tl) := by
  intro pins s σ H R I h
  refine thn (hl pins s σ H _ I h) fun v s1 ⟨x, H1, I1, r1, q1⟩ => ?_
  dsimp only at q1
  split at q1
  · rename_i a
    unfold rIter at q1
    cases r1
    have fp : ∀ b ∈ [s1.heap.objs.size], FpOk X pins H1 b := fun b hb => by
      have e : b = s1.heap.objs.size := by simpa using hb
      subst e
      exact I1.fpOk (Nat.le_refl _) (I1.hok.fresh (Nat.le_refl _))
    rcases q1 with ⟨⟨xs, hq⟩, q⟩ | ⟨⟨xs, hq⟩, q⟩
    · obtain ⟨its, rv, p, hz⟩ := I1.list hq
      refine wpAny_pyIter_list p.isList ?_
      exact ⟨s1.heap.objs.size, [s1.heap.objs.size], _, _, H1, rfl, I1.kept (t' := s1.toks) fun b o e => Heap.get?_push_of_some _ e, turn_list a _, ⟨_, Heap.get?_push_size _ rfl, rfl, rfl⟩, fp, q⟩
    · obtain ⟨its, rv, p, hz⟩ := I1.tuple hq
      refine wpAny_pyIter_tuple (show s1.heap.IsTuple a its.toArray from p) ?_
      exact ⟨s1.heap.objs.size, [s1.heap.objs.size], _, _, H1, rfl, I1.kept (t' := s1.toks) fun b o e => Heap.get?_push_of_some _ e, turn_tuple a _, ⟨_, Heap.get?_push_size _ rfl, rfl, rfl⟩, fp, q⟩
  · exact q1.elim
@[irreducible] noncomputable def rRange (i j : Int) (H : Hp) (R : It → Hp → Prop) : Prop := (-(2 ^ 62) ≤ i ∧ i < 2 ^ 62 ∧ -(2 ^ 62) ≤ j ∧ j < 2 ^ 62) ∧ R (Itr i (j - i).toNat) H
noncomputable def qiRng (ta : TA) : TI := fun σ H R => ta σ H fun vs H1 => match vs with
  | [.int j] => rRange 0 j H1 R
  | [.int i, .int j] => rRange i j H1 R
  | _ => False
theorem piRng1 {tg a : Expr} {ta : TA} {p pos : Pos} (hm : X.mg "range" = none) (ha : PA X [a] ta) (hg : Gl X "range" := by rfl) (hs : starEach [a] X.env = [(false, eval a X.env)] := by rfl) : PI X tg (.Call (.Name "range" p) [a] [] pos) (qiRng ta) := by
  intro pins s σ H R I h
  refine Call_ (ld_blt I hg hm boot_range (PyProof.Rows.callWith_type1 (thn (ha pos pins s σ H _ I h) fun us s1 ⟨vs, H1, I1, r1, q1⟩ => ?_) hs rfl))
  dsimp only at q1
  split at q1
  · unfold rRange at q1
    obtain ⟨⟨a1, a2, a3, a4⟩, q⟩ := q1
    cases r1 with
    | cons r rr =>
      cases rr
      obtain ⟨t, rfl⟩ := r
      exact call_range_1 (range_it I1 a1 a2 a3 a4 q)
  · unfold rRange at q1
    cases r1 with
    | cons r rr =>
      cases rr with
      | cons r' rr =>
        cases rr
        obtain ⟨t, rfl⟩ := r
        obtain ⟨t', rfl⟩ := r'
        obtain ⟨⟨a1, a2, a3, a4⟩, q⟩ := q1
        exact call_range_2 (range_it I1 a1 a2 a3 a4 q)
  · exact q1.elim
/-! the loops' readings -/
section
variable {K : PySem.W.Frag} {g : TG} {tb : TS} {D : Ends} {σ : St} {H : Hp} {R : It → Hp → Prop}
theorem iterL_rd {a : Addr} {xs : List V} (h : H a = some (.lst xs)) (q : R (Itl K a) H) : rIter K a H R := by unfold rIter; exact .inl ⟨⟨xs, SqL.of h⟩, q⟩
theorem iterT_rd {a : Addr} {xs : List V} (h : H a = some (.tup xs)) (q : R (Itt K a) H) : rIter K a H R := by unfold rIter; exact .inr ⟨⟨xs, SqT.of h⟩, q⟩
theorem range_rd {i j : Int} (h1 : -(2 ^ 62) ≤ i) (h2 : i < 2 ^ 62) (h3 : -(2 ^ 62) ≤ j) (h4 : j < 2 ^ 62) (q : R (Itr i (j - i).toNat) H) : rRange i j H R := by unfold rRange; exact ⟨⟨h1, h2, h3, h4⟩, q⟩
theorem loop_list {a : Addr} {xs : List V} (Pv : Nat → St → Hp → Prop) (h0 : Pv 0 σ H) (hl : ∀ i σ H, i ≤ xs.length → Pv i σ H → SqL K H a xs)
    (hs : ∀ i x σ H, xs[i]? = some x → Pv i σ H → g x σ H fun σ2 H2 => tb { D with nx := Pv (i + 1), ct := Pv (i + 1), bk := D.nx } σ2 H2) (hd : ∀ σ H, Pv xs.length σ H → D.nx σ H) : loopW (Itl K a) g tb D σ H := by
  unfold loopW; exact for_list Pv h0 hl hs hd
theorem loop_tup {a : Addr} {xs : List V} (Pv : Nat → St → Hp → Prop) (h0 : Pv 0 σ H) (hl : ∀ i σ H, i ≤ xs.length → Pv i σ H → SqT K H a xs)
    (hs : ∀ i x σ H, xs[i]? = some x → Pv i σ H → g x σ H fun σ2 H2 => tb { D with nx := Pv (i + 1), ct := Pv (i + 1), bk := D.nx } σ2 H2) (hd : ∀ σ H, Pv xs.length σ H → D.nx σ H) : loopW (Itt K a) g tb D σ H := by
  unfold loopW; exact for_tup Pv h0 hl hs hd
theorem loop_range {lo : Int} {n : Nat} (Pv : Nat → St → Hp → Prop) (h0 : Pv 0 σ H)
    (hs : ∀ i σ H, i < n → Pv i σ H → g (.int (lo + i)) σ H fun σ2 H2 => tb { D with nx := Pv (i + 1), ct := Pv (i + 1), bk := D.nx } σ2 H2) (hd : ∀ σ H, Pv n σ H → D.nx σ H) : loopW (Itr lo n) g tb D σ H := by
  unfold loopW; exact for_range Pv h0 hs hd
end
/-! while -/
section
variable {c : TT} {tb : TS} {D : Ends} {σ : St} {H H1 : Hp} {W : Nat → St → Hp → Prop} {m : Nat} {p : Prop}
end

/-! ### displays, index, store, slices -/
@[irreducible] noncomputable def rNewT (xs : List V) (H : Hp) (Q : VK) : Prop := xs.length ≤ sizeLine ∧ ∀ p H', H p = none → Same H H' → H' p = some (.tup xs) → Q (.ref p) H'
@[irreducible] noncomputable def rNewL (xs : List V) (H : Hp) (Q : VK) : Prop := xs.length ≤ sizeLine ∧ ∀ p H', H p = none → Same H H' → H' p = some (.lst xs) → Q (.ref p) H'
noncomputable def qTup (t : TA) : TE := fun σ H Q => t σ H fun xs H1 => rNewT xs H1 Q
noncomputable def qLst (t : TA) : TE := fun σ H Q => t σ H fun xs H1 => rNewL xs H1 Q
theorem peTup {es : List Expr} {x1} {t : TA} (h : PA X es t) : PE X (.Tuple es x1 pos) (qTup t) := by
  intro pins s σ H Q I hq
  refine wpAny_Tuple_spliced (thn (h pos pins s σ H _ I hq) fun us s1 ⟨xs, H1, I1, r, z⟩ => ?_)
  unfold rNewT at z
  obtain ⟨z, q⟩ := z
  refine ⟨by rw [← r.length]; exact z, ?_⟩
  have hf : H1 s1.heap.objs.size = none := I1.hok.fresh (Nat.le_refl _)
  refine ⟨.ref s1.heap.objs.size, upd H1 s1.heap.objs.size (.tup xs), I1.laid (t' := s1.toks) (fun b u e => Heap.get?_push_of_some _ e) (Nat.le_refl _) ?_, rfl, q _ _ hf (Same.upd hf) upd_same⟩
  exact ⟨z, us, r, ⟨_, Heap.get?_push_size _ rfl, rfl, _, rfl⟩⟩
theorem peLst {es : List Expr} {t : TA} (h : PA X es t) : PE X (.List es pos) (qLst t) := by
  intro pins s σ H Q I hq
  refine wpAny_List_spliced (thn (h pos pins s σ H _ I hq) fun us s1 ⟨xs, H1, I1, r, z⟩ => ?_)
  unfold rNewL at z
  obtain ⟨z, q⟩ := z
  refine ⟨by rw [← r.length]; exact z, ?_⟩
  have hf : H1 s1.heap.objs.size = none := I1.hok.fresh (Nat.le_refl _)
  refine ⟨.ref s1.heap.objs.size, upd H1 s1.heap.objs.size (.lst xs), I1.laid (t' := s1.toks) (fun b u e => Heap.get?_push_of_some _ e) (Nat.le_refl _) ?_, rfl, q _ _ hf (Same.upd hf) upd_same⟩
  exact ⟨z, us, 0, r, Heap.get?_push_size _ rfl⟩
@[irreducible] noncomputable def rIxA (K : PySem.W.Frag) (p : Addr) (i : Int) (H : Hp) (Q : VK) : Prop := ∃ xs v, (SqL K H p xs ∨ SqT K H p xs) ∧ atI xs i = some v ∧ Q v H
noncomputable def rIxM (K : PySem.W.Frag) : R2 := fun x y H Q => match x, y with
  | .ref p, .int i => rIxA K p i H Q
  | .str z, .int i => ∃ c, z.length ≤ sizeLine ∧ atI z.cps.toList i = some c ∧ Q (.str ⟨#[c]⟩) H
  | _, _ => False
theorem ixM : IxR X (rIxM X.K) := by
  intro value slice pins s σ H x y v u Q I rx ry h hs
  unfold rIxM at h
  split at h
  · unfold rIxA at h
    obtain ⟨xs, z, h1, h2, q⟩ := h
    rcases h1 with h1 | h1
    · exact ix_list value slice pins s σ H _ _ v u Q I rx ry ⟨_, xs, _, z, rfl, rfl, h1, h2, q⟩ hs
    · exact ix_tup value slice pins s σ H _ _ v u Q I rx ry ⟨_, xs, _, z, rfl, rfl, h1, h2, q⟩ hs
  · obtain ⟨c, h1, h2, q⟩ := h
    exact ix_str value slice pins s σ H _ _ v u Q I rx ry ⟨_, _, c, rfl, rfl, h1, h2, q⟩ hs
  · exact h.elim
theorem peIx (ha : PE X a ta) (hb : PE X b tb) (hs : PlainIx b := by exact fun _ _ => rfl) : PE X (.Subscript a b pos) (tOp (rIxM X.K) ta tb) := pe_ix ixM ha hb hs
@[irreducible] noncomputable def rSetA (p : Addr) (k : Int) (v : V) (H : Hp) (Q : Hp → Prop) : Prop := ∃ xs j, H p = some (.lst xs) ∧ ixN xs.length k = some j ∧ ∀ H', Chg p H H' → H' p = some (.lst (xs.set j v)) → Q H'
noncomputable def rSetM : TSet := fun o i v H Q => match o, i with
  | .ref p, .int k => rSetA p k v H Q
  | _, _ => False
theorem setM : PSet X rSetM := by
  intro pins s σ H o i v ov iv u Q I ro ri rv h
  unfold rSetM at h
  split at h
  · unfold rSetA at h
    obtain ⟨xs, j, h1, h2, q⟩ := h
    exact set_list pins s σ H _ _ v ov iv u Q I ro ri rv ⟨_, xs, _, j, rfl, rfl, h1, h2, q _ Chg.upd upd_same⟩
  · exact h.elim
noncomputable def qPart (t : TE) : TO := fun σ H Q => t σ H fun x H1 => match x with
  | .int i => Q (some i) H1
  | _ => False
theorem poSome (h : PE X e te) : PO X (some e) (qPart te) := by
  intro pins s σ H Q I hw
  rw [evalPart_some]
  refine thn (h pins s σ H _ I hw) fun u s1 ⟨x, H1, I1, r1, q1⟩ => ?_
  dsimp only at q1
  split at q1
  · rename_i i
    obtain ⟨t, rfl⟩ := r1
    exact ⟨some i, H1, I1, .int i t, q1⟩
  · exact q1.elim
section
variable {K : PySem.W.Frag} {H : Hp} {Q : VK} {p : Addr} {xs : List V} {v : V} {i : Int}
theorem newT_rd (q : ∀ p H', H p = none → Same H H' → H' p = some (.tup xs) → Q (.ref p) H') (h : xs.length ≤ sizeLine := by first | assumption | (simp only [List.length_cons, List.length_nil, Nat.zero_add, Nat.reduceAdd]; decide)) : rNewT xs H Q := by unfold rNewT; exact ⟨h, q⟩
theorem newL_rd (q : ∀ p H', H p = none → Same H H' → H' p = some (.lst xs) → Q (.ref p) H') (h : xs.length ≤ sizeLine := by first | assumption | (simp only [List.length_cons, List.length_nil, Nat.zero_add, Nat.reduceAdd]; decide)) : rNewL xs H Q := by unfold rNewL; exact ⟨h, q⟩
theorem ixT_rd (h : H p = some (.tup xs)) (e : atI xs i = some v) (q : Q v H) : rIxA K p i H Q := by unfold rIxA; exact ⟨xs, v, .inr (SqT.of h), e, q⟩
theorem ixL_rd (h : H p = some (.lst xs)) (e : atI xs i = some v) (q : Q v H) : rIxA K p i H Q := by unfold rIxA; exact ⟨xs, v, .inl (SqL.of h), e, q⟩
theorem set_rd {R : Hp → Prop} {j : Nat} (h : H p = some (.lst xs)) (e : ixN xs.length i = some j) (q : ∀ H', Chg p H H' → H' p = some (.lst (xs.set j v)) → R H') : rSetA p i v H R := by unfold rSetA; exact ⟨xs, j, h, e, q⟩
end

/-! ### tuple targets -/
noncomputable def qgNil : TGs := fun vs σ H Q => match vs with
  | [] => Q σ H
  | _ => False
noncomputable def qgCons (t : TG) (u : TGs) : TGs := fun vs σ H Q => match vs with
  | v :: r => t v σ H fun σ' H' => u r σ' H' Q
  | _ => False
theorem pgsNil : PGs X [] qgNil := fun pins s σ H vs us Q I r h => by
  unfold qgNil at h
  split at h
  · exact pgs_nil pins s σ H _ us Q I r ⟨rfl, h⟩
  · exact h.elim
theorem pgsCons {e : Expr} {es : List Expr} {t : TG} {u : TGs} (h1 : PG X e t) (h2 : PGs X es u)
    (hs : (assignEach (e :: es) X.env).map (·.2) = assign e X.env :: (assignEach es X.env).map (·.2) := by rfl) : PGs X (e :: es) (qgCons t u) := fun pins s σ H vs us Q I r h => by
  unfold qgCons at h
  split at h
  · exact pgs_cons h1 h2 hs pins s σ H _ us Q I r ⟨_, _, rfl, h⟩
  · exact h.elim
end
end L2

set_option Elab.async false
set_option linter.all false
set_option maxRecDepth 100000
set_option maxHeartbeats 1000000
namespace L2
open PySem PySem.Spec PyProof.Rows
section
variable {X : Cx}
/-! ### built-in calls, by values -/
noncomputable def rAbsM : List V → Hp → VK → Prop := fun xs H Q => match xs with
  | [.int i] => Q (.int (i.natAbs : Int)) H
  | _ => False
noncomputable def rIntM : List V → Hp → VK → Prop := fun xs H Q => match xs with
  | [.int i] => Q (.int i) H
  | [.bl k] => Q (.int (if k = true then 1 else 0)) H
  | _ => False
theorem cInt : CallR X (.type "int") rIntM := fun pins s σ H xs us Q I r h => by
  unfold rIntM at h
  split at h
  · exact call_int1 pins s σ H _ us Q I r (.inl ⟨_, rfl, h⟩)
  · exact call_int1 pins s σ H _ us Q I r (.inr ⟨_, rfl, h⟩)
  · exact h.elim
@[irreducible] noncomputable def rLenA (K : PySem.W.Frag) (p : Addr) (H : Hp) (Q : VK) : Prop := ∃ ys, (SqL K H p ys ∨ SqT K H p ys) ∧ Q (.int ys.length) H
noncomputable def rLenM (K : PySem.W.Frag) : List V → Hp → VK → Prop := fun xs H Q => match xs with
  | [.ref p] => rLenA K p H Q
  | [.str z] => z.length ≤ sizeLine ∧ Q (.int z.length) H
  | _ => False
theorem cLen : CallR X (.builtin "len") (rLenM X.K) := fun pins s σ H xs us Q I r h => by
  unfold rLenM at h
  split at h
  · unfold rLenA at h
    obtain ⟨ys, h1, h2⟩ := h
    exact call_len_seq pins s σ H _ us Q I r ⟨_, ys, rfl, h1, h2⟩
  · exact call_len_str pins s σ H _ us Q I r ⟨_, rfl, h.1, h.2⟩
  · exact h.elim
@[irreducible] noncomputable def rIsiA (K : PySem.W.Frag) (x c : V) (H : Hp) (Q : VK) : Prop := ∃ t b, TyOf K H x t ∧ (∀ cv, RelV c cv → PySem.W.kitOne K t cv = some b) ∧ Q (.bl b) H
noncomputable def rIsiM (K : PySem.W.Frag) : List V → Hp → VK → Prop := fun xs H Q => match xs with
  | [x, c] => rIsiA K x c H Q
  | _ => False
theorem cIsi : CallR X (.builtin "isinstance") (rIsiM X.K) := fun pins s σ H xs us Q I r h => by
  unfold rIsiM at h
  split at h
  · unfold rIsiA at h
    obtain ⟨t, b, h1, h2, h3⟩ := h
    obtain ⟨u, w, rfl, r1, r2⟩ := vals2 r
    exact isinst_ok I r1 h1 (h2 _ r2) fun tk => ⟨.bl b, H, I.tok _, rfl, h3⟩
  · exact h.elim
section
variable {K : PySem.W.Frag} {H : Hp} {Q : VK} {p : Addr} {xs : List V}
theorem lenL_rd (h : H p = some (.lst xs)) (q : Q (.int xs.length) H) : rLenA K p H Q := by unfold rLenA; exact ⟨xs, .inl (SqL.of h), q⟩
theorem lenT_rd (h : H p = some (.tup xs)) (q : Q (.int xs.length) H) : rLenA K p H Q := by unfold rLenA; exact ⟨xs, .inr (SqT.of h), q⟩
theorem isiI_rd {i : Int} {n : String} {b : Bool} (q : Q (.bl b) H) (e : PySem.W.kitOne K (.type "int") (.type n) = some b := by rfl) : rIsiA K (.int i) (.ty n) H Q := by
  unfold rIsiA; exact ⟨_, b, .int i, fun cv r => by cases r; exact e, q⟩
theorem isiB_rd {i : Bool} {n : String} {b : Bool} (q : Q (.bl b) H) (e : PySem.W.kitOne K (.type "bool") (.type n) = some b := by rfl) : rIsiA K (.bl i) (.ty n) H Q := by
  unfold rIsiA; exact ⟨_, b, .bl i, fun cv r => by cases r; exact e, q⟩
theorem isiN_rd {n : String} {b : Bool} (q : Q (.bl b) H) (e : PySem.W.kitOne K (.type "NoneType") (.type n) = some b := by rfl) : rIsiA K .non (.ty n) H Q := by
  unfold rIsiA; exact ⟨_, b, .non, fun cv r => by cases r; exact e, q⟩
theorem isiS_rd {x : Str} {n : String} {b : Bool} (q : Q (.bl b) H) (e : PySem.W.kitOne K (.type "str") (.type n) = some b := by rfl) : rIsiA K (.str x) (.ty n) H Q := by
  unfold rIsiA; exact ⟨_, b, .str x, fun cv r => by cases r; exact e, q⟩
theorem isiT_rd {n : String} {b : Bool} (h : H p = some (.tup xs)) (q : Q (.bl b) H) (e : PySem.W.kitOne K (.type "tuple") (.type n) = some b := by rfl) : rIsiA K (.ref p) (.ty n) H Q := by
  unfold rIsiA; exact ⟨_, b, .tup h, fun cv r => by cases r; exact e, q⟩
theorem isiL_rd {n : String} {b : Bool} (h : H p = some (.lst xs)) (q : Q (.bl b) H) (e : PySem.W.kitOne K (.type "list") (.type n) = some b := by rfl) : rIsiA K (.ref p) (.ty n) H Q := by
  unfold rIsiA; exact ⟨_, b, .lst h, fun cv r => by cases r; exact e, q⟩
end
/-! the names of the built-ins -/
theorem bt_len : bootBuiltins "len" = some (.builtin "len") := by decide +kernel
theorem bt_sum : bootBuiltins "sum" = some (.builtin "sum") := by decide +kernel
theorem bt_all : bootBuiltins "all" = some (.builtin "all") := by decide +kernel
theorem bt_isinstance : bootBuiltins "isinstance" = some (.builtin "isinstance") := by decide +kernel
theorem bt_sorted : bootBuiltins "sorted" = some (.builtin "sorted") := by decide +kernel
theorem bt_int : bootBuiltins "int" = some (.type "int") := by decide +kernel
theorem bt_bool : bootBuiltins "bool" = some (.type "bool") := by decide +kernel
theorem bt_str : bootBuiltins "str" = some (.type "str") := by decide +kernel
theorem bt_list : bootBuiltins "list" = some (.type "list") := by decide +kernel
theorem bt_tuple : bootBuiltins "tuple" = some (.type "tuple") := by decide +kernel
theorem pTy {x : Str} {n : String} {pos : Pos} (hm : X.mg x = none) (hv : bootBuiltins x = some (.type n)) (hg : Gl X x := by rfl) (hn : x ≠ "__name__" := by decide) (hd : (x == ("__debug__" : Str)) = false := by decide) : PE X (.Name x pos) (tC (.ty n)) :=
  pe_bltn hg hm hv rfl hn hd
theorem pB {x : Str} {p pos : Pos} {e : Expr} {es : List Expr} {t : TA} {id : String} {r : List V → Hp → VK → Prop} (hc : CallR X (.builtin id) r) (hm : X.mg x = none) (hv : bootBuiltins x = some (.builtin id)) (ha : PA X (e :: es) t) (hg : Gl X x := by rfl) (hn : x ≠ "__name__" := by decide) (hdb : (x == ("__debug__" : Str)) = false := by decide)
    (he : starEach (e :: es) X.env = (false, eval e X.env) :: starEach es X.env := by rfl) (hpl : (backTo pos (starEach es X.env)).any (·.1) = false := by rfl) : PE X (.Call (.Name x p) (e :: es) [] pos) (tCB r t) := pe_callB hc hg hm hv ha hn hdb he hpl
theorem pT {x : Str} {p pos : Pos} {e : Expr} {es : List Expr} {t : TA} {id : String} {r : List V → Hp → VK → Prop} (hc : CallR X (.type id) r) (hm : X.mg x = none) (hv : bootBuiltins x = some (.type id)) (ha : PA X (e :: es) t) (hg : Gl X x := by rfl) (hn : x ≠ "__name__" := by decide) (hdb : (x == ("__debug__" : Str)) = false := by decide)
    (he : starEach (e :: es) X.env = (false, eval e X.env) :: starEach es X.env := by rfl) (hpl : (backTo pos (starEach es X.env)).any (·.1) = false := by rfl) : PE X (.Call (.Name x p) (e :: es) [] pos) (tCB r t) := pe_callTy hc hg hm hv ha hn hdb he hpl
/-! a def of the text, called: what is known of it -/
structure Def (P : Program) (w : World) (K : PySem.W.Frag) (mg : Str → Option Value) (base : Heap) (CX : CXT) (k : Nat) (x : Str) (ps : List Str) (sp : Sp) : Prop where
  ex : ∃ (f : Addr) (fd : FuncData), FnOk P w K mg base CX k f fd ps sp ∧ mg x = some (.ref f) ∧ PySem.W.keepIn K (.ref f) = true ∧ Binds K fd ps []
noncomputable def qCall (sp : Sp) (E : XK) (t : TA) : TE := fun σ H Q => t σ H fun vs H1 => sp vs H1 Q E
theorem pD {CX : CXT} {k j : Nat} {x : Str} {ps : List Str} {sp : Sp} {E : XK} {p pos : Pos} {e : Expr} {es : List Expr} {t : TA} (F : Def X.prog X.w X.K X.mg X.base CX k x ps sp) (hr : Room j X.A) (hx : Passes CX X E) (ha : PA X (e :: es) t) (hk : k ≤ j := by decide) (hg : Gl X x := by rfl)
    (hdb : (x == ("__debug__" : Str)) = false := by decide) (he : starEach (e :: es) X.env = (false, eval e X.env) :: starEach es X.env := by rfl) (hpl : (backTo pos (starEach es X.env)).any (·.1) = false := by rfl) :
    PE X (.Call (.Name x p) (e :: es) [] pos) (qCall sp E t) := by
  obtain ⟨f, fd, F1, F2, F3, F4⟩ := F.ex
  intro pins s σ H Q I h
  refine pe_call F1 (hr.mono hk) hg F2 F3 F4 .nil hx ha hdb he hpl pins s σ H Q I ?_
  unfold tCall
  simp only [List.append_nil]
  exact h
theorem psS {i : Nat} {x : Str} {e : Expr} {te : TE} {pos' pos : Pos} (hN : X.N.Nodup) (he : PE X e te) (hi : X.N[i]? = some x := by rfl) (hx : Loc X.env.scope x := by first | exact Or.inl rfl | exact Or.inr rfl) (hs : swapsWith e (some (.Name x pos')) pos.line X.env = pure false := by rfl) (hf : X.fn x = true ∨ X.env.scope.names.lookup x = some .local := by first | exact .inl rfl | exact .inr rfl | assumption) :
    PS X (.Assign [.Name x pos'] e pos) (tAsg te (gName i)) := ps_set hN hi hx he hs hf
section
variable {K : PySem.W.Frag} {H : Hp} {Q : VK} {p : Addr} {xs : List V} {i j : Int}
theorem mulL_rd (h1 : -18446744073709551616 < i) (h2 : i < 18446744073709551616) (q : Q (.int (i * j)) H) : rMulI i j H Q := mul_rd (.of_left (intBits_le_64 (by simpa using h1) (by simpa using h2))) q
theorem mulR_rd (h1 : -18446744073709551616 < j) (h2 : j < 18446744073709551616) (q : Q (.int (i * j)) H) : rMulI i j H Q := mul_rd (.of_right (intBits_le_64 (by simpa using h1) (by simpa using h2))) q
/-- a remainder, by its bounds alone -/
theorem modG_rd (h : 0 < j) (q : ∀ r : Int, 0 ≤ r → r < j → Q (.int r) H) : rModI i j H Q := mod_rd h (q _ (Int.emod_nonneg _ (by omega)) (Int.emod_lt_of_pos _ h))
theorem pow_lit {r : Int} (h : CPow i j) (e : i ^ j.toNat = r) (q : Q (.int r) H) : rPowI i j H Q := pow_rd h (by rw [e]; exact q)
/-- an item at a drawn place -/
theorem ixAny_rd (h : H p = some (.lst xs)) (h0 : 0 ≤ i) (h1 : i < xs.length) (q : ∀ v, v ∈ xs → Q v H) : rIxA K p i H Q := by
  have hl : i.toNat < xs.length := by omega
  refine ixL_rd h (v := xs[i.toNat]) ?_ (q _ (List.getElem_mem hl))
  have e : ((i.toNat : Nat) : Int) = i := by omega
  have z := atI_nat (List.getElem?_eq_getElem hl)
  rw [e] at z
  exact z
theorem hu40 {A : Around} {k : Nat} (hr : Room k A) : A.units + 40 < cLine := by have := hr.units; omega
end
/-! ### a word between two statements -/
@[irreducible] noncomputable def qCut (t : TS) : TS := fun D σ H => ∃ R : St → Hp → Prop, t { D with nx := R } σ H ∧ ∀ σ' H', R σ' H' → D.nx σ' H'
theorem psCut {st : Stmt} {t : TS} (h : PS X st t) : PS X st (qCut t) := fun pins s σ H D I hq => by
  unfold qCut at hq
  obtain ⟨R, h1, h2⟩ := hq
  refine thn (h pins s σ H _ I h1) fun f s' q => ?_
  cases f with
  | next => obtain ⟨σ', H', I', z⟩ := q; exact ⟨σ', H', I', h2 _ _ z⟩
  | brk => exact q
  | cont => exact q
  | ret u => exact q
theorem cut_rd {t : TS} {D : Ends} {σ : St} {H : Hp} (R : St → Hp → Prop) (h1 : t { D with nx := R } σ H) (h2 : ∀ σ' H', R σ' H' → D.nx σ' H') : qCut t D σ H := by unfold qCut; exact ⟨R, h1, h2⟩
theorem cut_id {t : TS} {D : Ends} {σ : St} {H : Hp} (h1 : t D σ H) : qCut t D σ H := by unfold qCut; exact ⟨D.nx, h1, fun _ _ h => h⟩
/-! the script's numbers -/
theorem EqR.ints2 {K : PySem.W.Frag} {H : Hp} {a b : Addr} {t u x y : Int} (ha : H a = some (.tup [.int t, .int u])) (hb : H b = some (.tup [.int x, .int y])) : EqR K H 1 (.ref a) (.ref b) (decide (t = x ∧ u = y)) := by
  have h := EqR.tup (K := K) (H := H) (n := 0) (fun j => match j with | 0 => decide (t = x) | 1 => decide (u = y) | _ => true) (SqT.of ha) (SqT.of hb) (fun j p q hp hq => by
    have fl : ∀ (i k : Int), EqR K H 0 (.int i) (.int k) (decide (i = k)) := fun i k => by
      have := EqR.flat (K := K) (H := H) (n := 0) (x := .int i) (y := .int k) rfl rfl
      have e : eqV (.int i) (.int k) = decide (i = k) := by
        by_cases z : i = k
        · subst z; simp [eqV]
        · simp [eqV, z]
      rw [e] at this; exact this
    match j with
    | 0 => simp at hp hq; subst hp hq; exact fl t x
    | 1 => simp at hp hq; subst hp hq; exact fl u y
    | j + 2 => simp at hp)
  have e : ((List.range (min [V.int t, V.int u].length [V.int x, V.int y].length)).all (fun j => match j with | 0 => decide (t = x) | 1 => decide (u = y) | _ => true) && ([V.int t, V.int u].length == [V.int x, V.int y].length)) = decide (t = x ∧ u = y) := by
    show ((decide (t = x) && (decide (u = y) && true)) && true) = _
    rw [Bool.and_true, Bool.and_true, Bool.decide_and]
  rw [e] at h
  exact h
end
end L2

set_option Elab.async false
set_option linter.all false
set_option maxRecDepth 100000
set_option maxHeartbeats 2000000
namespace L2
open PySem PySem.Spec PyProof.Rows
/-! ### comprehensions -/
theorem closure_go {env : Env} : ∀ (names : List (Str × NameKind)) (acc : List (Str × Addr)), (∀ x ∈ names, x.2 = .free → ∃ c, env.cells.lookup x.1 = some c) →
    ∃ acc', (forIn (m := Sem) names acc (fun (x : Str × NameKind) (r : List (Str × Addr)) => if (x.2 == .free) = true then (do let c ← cellOf env x.1; pure (ForInStep.yield ((x.1, c) :: r))) else pure (ForInStep.yield r))) = pure acc' ∧
      (∀ x c, acc'.lookup x = some c → acc.lookup x = some c ∨ env.cells.lookup x = some c) ∧ (∀ x c, acc.lookup x = some c → ∃ c', acc'.lookup x = some c') ∧ ∀ x ∈ names, x.2 = .free → ∃ c, acc'.lookup x.1 = some c
  | [], acc, _ => ⟨acc, rfl, fun _ _ h => .inl h, fun _ c h => ⟨c, h⟩, fun _ h => by cases h⟩
  | (n, k) :: r, acc, h => by
    by_cases hk : k = .free
    · subst hk
      obtain ⟨c, hc⟩ := h (n, .free) List.mem_cons_self rfl
      obtain ⟨acc', e, h1, h2, h3⟩ := closure_go r ((n, c) :: acc) fun x hx => h x (List.mem_cons_of_mem _ hx)
      have hco : cellOf env n = pure c := by unfold cellOf; rw [hc]
      refine ⟨acc', ?_, fun x d hd => ?_, fun x d hd => ?_, fun x hx hf => ?_⟩
      · rw [List.forIn_cons]
        simp only [hco]
        exact e
      · rcases h1 x d hd with q | q
        · rw [List.lookup_cons] at q
          split at q
          · rename_i hx
            have hx : x = n := by simpa using hx
            subst hx
            cases q
            exact .inr hc
          · exact .inl q
        · exact .inr q
      · by_cases hx : x = n
        · subst hx
          exact h2 x c (by simp [List.lookup_cons])
        · refine h2 x d ?_
          rw [List.lookup_cons]
          have : (x == n) = false := by simpa using hx
          rw [this]; exact hd
      · rcases List.mem_cons.mp hx with rfl | hx
        · exact h2 n c (by simp [List.lookup_cons])
        · exact h3 x hx hf
    · obtain ⟨acc', e, h1, h2, h3⟩ := closure_go r acc fun x hx => h x (List.mem_cons_of_mem _ hx)
      refine ⟨acc', ?_, h1, h2, fun x hx hf => ?_⟩
      · rw [List.forIn_cons]
        have : (k == NameKind.free) = false := by simpa using hk
        simp only [this]
        exact e
      · rcases List.mem_cons.mp hx with rfl | hx
        · exact absurd hf hk
        · exact h3 x hx hf
theorem closure_ok {scope : Scope} {env : Env} (h : ∀ x ∈ scope.names, x.2 = .free → ∃ c, env.cells.lookup x.1 = some c) :
    ∃ cl, closureFor scope env = pure cl ∧ (∀ x c, cl.lookup x = some c → env.cells.lookup x = some c) ∧ ∀ x ∈ scope.names, x.2 = .free → ∃ c, cl.lookup x.1 = some c := by
  obtain ⟨cl, e, h1, _, h3⟩ := closure_go (env := env) scope.names [] h
  refine ⟨cl, ?_, fun x c hc => (h1 x c hc).elim (fun q => by cases q) id, h3⟩
  unfold closureFor
  show (forIn (m := Sem) scope.names ([] : List (Str × Addr)) _ >>= fun r => pure r) = _
  rw [e]
  rfl
theorem relabel_free {env : Env} : ∀ {names : List (Str × NameKind)} {x : Str}, names.lookup x = some .free →
    (names.map fun (n, k) => if (k == NameKind.free && env.scope.kind == .function && env.kindOf n == some .cell) then (n, NameKind.cell) else (n, k)).lookup x = some .cell ∨
    (names.map fun (n, k) => if (k == NameKind.free && env.scope.kind == .function && env.kindOf n == some .cell) then (n, NameKind.cell) else (n, k)).lookup x = some .free
  | [], _, h => by simp at h
  | (n, k) :: r, x, h => by
    have ih := @relabel_free env r x
    show List.lookup x ((if (k == NameKind.free && env.scope.kind == .function && env.kindOf n == some .cell) = true then (n, NameKind.cell) else (n, k)) :: _) = _ ∨ List.lookup x ((if (k == NameKind.free && env.scope.kind == .function && env.kindOf n == some .cell) = true then (n, NameKind.cell) else (n, k)) :: _) = _
    cases hx : x == n with
    | true =>
      simp only [List.lookup_cons, hx] at h
      cases h
      by_cases hc : (NameKind.free == NameKind.free && env.scope.kind == .function && env.kindOf n == some .cell) = true
      · left; rw [if_pos hc]; simp only [List.lookup_cons, hx]
      · right; rw [if_neg hc]; simp only [List.lookup_cons, hx]
    | false =>
      simp only [List.lookup_cons, hx] at h
      by_cases hc : (k == NameKind.free && env.scope.kind == .function && env.kindOf n == some .cell) = true
      · rw [if_pos hc]; simp only [List.lookup_cons, hx]; exact ih h
      · rw [if_neg hc]; simp only [List.lookup_cons, hx]; exact ih h
/-- what a name's kind in the block says of the written scope -/
theorem relabel_kind {env : Env} : ∀ {names : List (Str × NameKind)} {x : Str} {k' : NameKind}, (∀ y ∈ names, y.2 ≠ .cell) → (k' = .cell ∨ k' = .free) →
    (names.map fun (n, k) => if (k == NameKind.free && env.scope.kind == .function && env.kindOf n == some .cell) then (n, NameKind.cell) else (n, k)).lookup x = some k' → ∃ y ∈ names, y.1 = x ∧ y.2 = .free
  | [], _, _, _, _, h => by simp at h
  | (n, k) :: r, x, k', hn, hk, h => by
    have ih := @relabel_kind env r x k' (fun y hy => hn y (List.mem_cons_of_mem _ hy)) hk
    replace h : List.lookup x ((if (k == NameKind.free && env.scope.kind == .function && env.kindOf n == some .cell) = true then (n, NameKind.cell) else (n, k)) :: List.map (fun (n, k) => if (k == NameKind.free && env.scope.kind == .function && env.kindOf n == some .cell) then (n, NameKind.cell) else (n, k)) r) = some k' := h
    cases hx : x == n with
    | true =>
      have hx' : x = n := by simpa using hx
      by_cases hf : k = .free
      · exact ⟨(n, k), List.mem_cons_self, hx'.symm, hf⟩
      · have hc : ¬ (k == NameKind.free && env.scope.kind == .function && env.kindOf n == some .cell) = true := by
          have : (k == NameKind.free) = false := by simpa using hf
          rw [this]; simp
        rw [if_neg hc] at h
        simp only [List.lookup_cons, hx] at h
        have : k = k' := Option.some.inj h
        subst this
        rcases hk with hk | hk
        · exact absurd hk (hn (n, k) List.mem_cons_self)
        · exact absurd hk hf
    | false =>
      have h' : List.lookup x (List.map (fun (n, k) => if (k == NameKind.free && env.scope.kind == .function && env.kindOf n == some .cell) then (n, NameKind.cell) else (n, k)) r) = some k' := by
        by_cases hc : (k == NameKind.free && env.scope.kind == .function && env.kindOf n == some .cell) = true
        · rw [if_pos hc] at h; simp only [List.lookup_cons, hx] at h; exact h
        · rw [if_neg hc] at h; simp only [List.lookup_cons, hx] at h; exact h
      obtain ⟨y, hy, h1, h2⟩ := ih h'
      exact ⟨y, List.mem_cons_of_mem _ hy, h1, h2⟩

/-- the context of a comprehension's block -/
noncomputable def blk (X : Cx) (N : List Str) (scope : Scope) (cl : List (Str × Addr)) (C : Addr) (s3 : Shared) (H3 : Hp) (fp : List Addr) : Cx :=
  { X with N := N, s₀ := s3, H₀ := H3, env := compEnvC scope cl C X.env, outer := X.stack, ex := fp, fn := fun _ => false, pn := [], xe := fun _ _ => False }
noncomputable def PTs (X : Cx) (ifs : List Expr) (t : TT) : Prop :=
  ∀ (pins : List (Addr × Obj)) (s : Shared) (σ : St) (H : Hp) (Q : Bool → Hp → Prop), Inv X pins σ H s → t σ H Q →
    wpAny (model X.prog X.w) X.A (forIn ifs true fun c r => if r = true then do let ok ← isTrue c X.env (eval c X.env); pure (ForInStep.yield ok) else pure (ForInStep.yield r)) (TP X pins σ Q) X.xe s
theorem pts_nil {X : Cx} : PTs X [] (fun _ H Q => Q true H) := fun _ _ _ H _ I h => wpAny_tests_nil ⟨H, I, h⟩
theorem pts_one {X : Cx} {c : Expr} {t : TT} (h : PT X c t) : PTs X [c] t := fun pins s σ H Q I hq => wpAny_tests_one (h pins s σ H Q I hq)
/-- one turn after another: the list so far -/
@[irreducible] noncomputable def cPut (W : Nat → Nat → List V → St → Hp → Prop) (acc : Addr) (ys : List V) (i m : Nat) (σ2 : St) (v : V) (H5 : Hp) : Prop :=
  H5 acc = some (.lst ys) ∧ ∀ H6, Chg acc H5 H6 → H6 acc = some (.lst (ys ++ [v])) → ∃ m', m' < m ∧ W (i + 1) m' (ys ++ [v]) σ2 H6
@[irreducible] noncomputable def cSkip (W : Nat → Nat → List V → St → Hp → Prop) (ys : List V) (i m : Nat) (σ2 : St) (H4 : Hp) : Prop := ∃ m', m' < m ∧ W (i + 1) m' ys σ2 H4
@[irreducible] noncomputable def compW (J : It) (g : TG) (tt : TT) (te : TE) (σ0 : St) (H1 : Hp) (Q : VK) : Prop :=
  ∀ acc H2, H1 acc = none → Same H1 H2 → H2 acc = some (.lst []) → ∃ W : Nat → Nat → List V → St → Hp → Prop, (∃ m, W 0 m [] σ0 H2) ∧ ∀ i m ys σ H, W i m ys σ H → H acc = some (.lst ys) ∧ ys.length < sizeLine ∧
    ((J.stop i H ∧ Q (.ref acc) H) ∨ (J.go i H ∧ ∀ x H', J.yld i H x H' → g x σ H' fun σ2 H3 => tt σ2 H3 fun b H4 =>
      br b (te σ2 H4 fun v H5 => cPut W acc ys i m σ2 v H5) (cSkip W ys i m σ2 H4)))
section
variable {X : Cx} {pins : List (Addr × Obj)} {σ : St} {H : Hp} {s2 : Shared}
theorem blk_inv {N : List Str} {scope : Scope} {cl : List (Str × Addr)} {C : Addr} {s3 s4 : Shared} {H3 : Hp} {fp : List Addr} {σc : St} (I : Inv X pins σ H3 s3)
    (hcl1 : ∀ x c, cl.lookup x = some c → X.env.cells.lookup x = some c) (hcl2 : ∀ x ∈ scope.names, x.2 = .free → ∃ c, cl.lookup x.1 = some c) (hkind : scope.kind = .function) (hcell : ∀ y ∈ scope.names, y.2 ≠ .cell)
    (hcap : ∀ (i : Nat) (x : Str) (v : V), N[i]? = some x → σc[i]? = some (some v) → ∃ j : Nat, X.N[j]? = some x ∧ σ[j]? = some (some v) ∧ scope.names.lookup x = some .free ∧ (X.env.kindOf x = some .cell ∨ X.env.kindOf x = some .free))
    (hlen : σc.length = N.length) (hC : s3.heap.objs.size = C) (hfp : ∀ b ∈ fp, FpOk X pins H3 b) (hfpl : ∀ b ∈ fp, b < C) (hex : ∀ b o, X.base.get? b = some o → b ∉ fp) (hns : ∃ m, s4.heap.Ns C m) (hk : ∀ b o, s3.heap.get? b = some o → s4.heap.get? b = some o) (h4 : s4.os = s3.os) (h5 : s4.gens = s3.gens) :
    Inv (blk X N scope cl C s3 H3 fp) [] σc H3 s4 := by
  subst hC
  have look : ∀ x, (blk X N scope cl s3.heap.objs.size s3 H3 fp).env.kindOf x = (relabel scope X.env).names.lookup x := fun x => rfl
  have cne : ∀ x c, cl.lookup x = some c → c < s3.heap.objs.size := fun x c h => by
    obtain ⟨v, o, ho, _⟩ := I.cell x c (hcl1 x c h)
    exact Heap.lt_size ho
  refine ⟨⟨I.ok.mod, ?_, I.ok.glob, I.ok.blt, Nat.le_refl _, fun x y c h1 h2 => I.ok.inj x y c (hcl1 _ _ h1) (hcl1 _ _ h2), fun x hx => ?_, fun x c h => ?_, I.ok.hd, I.ok.frames, .inl rfl, fun b hb => ⟨Nat.ne_of_lt (hfpl b hb), fun x c h => ?_⟩, fun b o e => I.bs b o e, Nat.le_trans I.ok.bsz I.sz, fun b o e => hex b o e, fun b hb => ?_, I.stack, I.stkFree⟩,
    h4, by rw [h5]; exact I.bare, Un.kept hk, ?_, fun x c h => ?_, I.hok.fresh (Nat.le_refl _), fun x c h => I.freeC x c (hcl1 _ _ h), fun p hp => (by cases hp), I.hok.kept hk, hlen⟩
  · exact hkind
  · have hx' : (relabel scope X.env).names.lookup x = some .cell ∨ (relabel scope X.env).names.lookup x = some .free := hx
    have hz : ∃ y ∈ scope.names, y.1 = x ∧ y.2 = .free := by
      rcases hx' with q | q
      · exact relabel_kind hcell (.inl rfl) q
      · exact relabel_kind hcell (.inr rfl) q
    obtain ⟨y, hy, rfl, hf⟩ := hz
    exact hcl2 y hy hf
  · exact absurd (show false = true from h) Bool.false_ne_true
  · exact (hfp b hb).2.2.2.2.1 x c (hcl1 x c h)
  · have := (hfp b hb).1
    intro hz
    obtain ⟨f0, f1, f2, _⟩ := hfp b hb
    have hz : b ∈ frs X.stack := hz
    rcases List.mem_cons.mp (I.stkSub b hz) with q | q
    · exact f1 q
    · exact f2 q
  · obtain ⟨m, hm⟩ := hns
    refine ⟨m, hm, fun i x v h1 h2 h3 => ?_⟩
    obtain ⟨j, e1, e2, e3, e4⟩ := hcap i x v h1 h2
    obtain ⟨mX, _, hl⟩ := I.loc
    obtain ⟨u, r, q⟩ := hl j x v e1 e2 (by rcases e4 with e4 | e4; exact .inr (.inl e4); exact .inr (.inr e4))
    refine ⟨u, r, .inr ⟨relabel_free e3, ?_⟩⟩
    obtain ⟨c, hc⟩ := hcl2 (x, .free) (PySem.mem_of_lookup e3) rfl
    refine ⟨c, hc, ?_⟩
    have hc' := hcl1 x c hc
    rcases q with ⟨k, _⟩ | ⟨_, c2, e5, o, ho, hd⟩
    · rcases e4 with e4 | e4 <;> rw [e4] at k <;> cases k
    · rw [hc'] at e5
      cases e5
      exact ⟨o, hk _ _ ho, hd⟩
  · obtain ⟨v, o, ho, hd⟩ := I.cell x c (hcl1 x c h)
    exact ⟨v, o, hk _ _ ho, hd⟩
theorem comp_loop {prog : Program} {w : World} {A : Around} {R : Result → Shared → Prop} {s : Shared} {elt target iter : Expr} {ifs : List Expr} {scope : Scope} {pos : Pos} {it acc : Value} {env : Env} (I : Nat → Shared → Prop)
    (turn : ∀ n s, I n s → wpAny (model prog w) A (pyNext it) (fun r s₁ => match r with
      | none => R (.ok .next) s₁
      | some v => wpAny (model prog w) A (letOwnedTupleGo target it v) (fun _ s₁' => wpAny (model prog w) A (assign target env v) (fun _ s₂ =>
          wpAny (model prog w) A (forIn ifs true fun c r => if r = true then do let ok ← isTrue c env (eval c env); pure (ForInStep.yield ok) else pure (ForInStep.yield r)) (fun ok s₃ =>
            if ok = true then wpAny (model prog w) A (eval elt env) (fun x s₄ =>
              wpAny (model prog w) A (call (.builtin "list.append") [acc, x]) (fun _ s₅ => ∃ m, m < n ∧ I m s₅) (fun _ _ => False) s₄) (fun _ _ => False) s₃
            else ∃ m, m < n ∧ I m s₃) (fun _ _ => False) s₂) (fun _ _ => False) s₁') (fun _ _ => False) s₁) (fun _ _ => False) s)
    (n : Nat) (h : I n s) : codeAny (model prog w) A (.compLoop (.ListComp elt [⟨target, iter, ifs, 0⟩] scope pos) 0 it acc env) R s := by
  refine codeAny_loop rfl I (fun n s hI => ?_) n h
  show wpAny _ A ((compTurn (.ListComp elt [⟨target, iter, ifs, 0⟩] scope pos) 0 it acc env).onRaise (fun x => do noteFrame x env; theTreesLotGoes x)) _ _ s
  refine wpAny_noted ?_
  rw [compTurn_list]
  refine wpAny_bind (wpAny_standAt (wpAny_bind (wpAny_mono (turn n s hI) (fun r s₁ h₁ => ?_) fun _ _ h' => h'.elim)))
  cases r with
  | none => exact wpAny_pure h₁
  | some v =>
    refine wpAny_bind (wpAny_mono h₁ (fun _ s₁' h₁' => ?_) fun _ _ h' => h'.elim)
    refine wpAny_bind (wpAny_mono h₁' (fun _ s₂ h₂ => wpAny_bind (wpAny_mono h₂ (fun ok s₃ h₃ => ?_) fun _ _ h' => h'.elim)) fun _ _ h' => h'.elim)
    cases ok with
    | false => exact wpAny_pure ⟨rfl, h₃⟩
    | true =>
      exact wpAny_bind (wpAny_bind (wpAny_mono h₃ (fun x s₄ h₄ => wpAny_bind (wpAny_mono h₄ (fun _ s₅ h₅ => wpAny_pure (wpAny_pure ⟨rfl, h₅⟩)) fun _ _ h' => h'.elim)) fun _ _ h' => h'.elim))

theorem comp_core {E : Value → Shared → Prop} {elt tg iter : Expr} {ifs : List Expr} {scope : Scope} {pos : Pos} {cl : List (Str × Addr)} {N : List Str} {σc : St} {J : It} {fp : List Addr} {it : Addr} {tn : Nat → Heap → Prop} {g : TG} {tt : TT} {te : TE} {Q : VK}
    {RR : Value → Addr → Result → Shared → Prop}
    (hcl1 : ∀ x c, cl.lookup x = some c → X.env.cells.lookup x = some c) (hcl2 : ∀ x ∈ scope.names, x.2 = .free → ∃ c, cl.lookup x.1 = some c) (hkind : scope.kind = .function) (hcell : ∀ y ∈ scope.names, y.2 ≠ .cell)
    (hcap : ∀ (i : Nat) (x : Str) (v : V), N[i]? = some x → σc[i]? = some (some v) → ∃ j : Nat, X.N[j]? = some x ∧ σ[j]? = some (some v) ∧ scope.names.lookup x = some .free ∧ (X.env.kindOf x = some .cell ∨ X.env.kindOf x = some .free))
    (hlen : σc.length = N.length) (hc : X.calm = true) (I : Inv X pins σ H s2) (T : Turn X.prog X.w X.K tg J fp it tn) (st : tn 0 s2.heap) (fpok : ∀ b ∈ fp, FpOk X pins H b)
    (hg : ∀ C s3 H3 fp, PG (blk X N scope cl C s3 H3 fp) tg g) (ht : ∀ C s3 H3 fp, PTs (blk X N scope cl C s3 H3 fp) ifs tt) (he : ∀ C s3 H3 fp, PE (blk X N scope cl C s3 H3 fp) elt te)
    (h : compW J g tt te σc H Q)
    (hRR : ∀ (acc C : Addr) (H' : Hp) (s' : Shared), Inv X pins σ H' s' → FpOk X pins H' C → (∃ m, s'.heap.Ns C m) → Q (.ref acc) H' → RR (.ref acc) C (.ok .next) s') :
    wpAny (model X.prog X.w) X.A (newList []) (fun acc s₃ => wpAny (model X.prog X.w) X.A (newFunctionEnv scope X.env.globals cl [] X.env.qual none .none (some X.env)) (fun cenv s₄ =>
      codeAny (model X.prog X.w) X.A (.compStart (.ListComp elt [⟨tg, iter, ifs, 0⟩] scope pos) 0 (.ref it) acc { cenv with scope := relabel scope X.env }) (RR acc cenv.locals) s₄) E s₃) E s2 := by
  refine wpAny_newObj_type (wpAny_newFunctionEnv hcell (by intro y hy; simp at hy) (fun h₁ hns₁ hsb₁ => ?_) hkind)
  dsimp only at hns₁ hsb₁ ⊢
  have hf : H s2.heap.objs.size = none := I.fresh
  have I3 : Inv X pins σ (upd H s2.heap.objs.size (.lst [])) { s2 with heap := s2.heap.push { cls := .type "list", data := .seq ([] : List Value).toArray } } := I.lnew (t' := s2.toks) (its := []) .nil (Nat.zero_le _)
  generalize hs3 : ({ s2 with heap := s2.heap.push { cls := .type "list", data := .seq ([] : List Value).toArray } } : Shared) = s3 at I3
  have hH : s2.heap.push { cls := .type "list", dict := none, data := .seq ([] : List Value).toArray } = s3.heap := by rw [← hs3]
  rw [hH] at hns₁ hsb₁ ⊢
  have hsz : s3.heap.objs.size = s2.heap.objs.size + 1 := by rw [← hH, Heap.size_push]
  have old23 : ∀ b o, s2.heap.get? b = some o → s3.heap.get? b = some o := fun b o e => by rw [← hH]; exact Heap.get?_push_of_some _ e
  have fplt : ∀ b ∈ fp, b < s2.heap.objs.size := fun b hb => by
    obtain ⟨o, e, _⟩ := T.obj 0 _ st b hb
    exact Heap.lt_size e
  have fp3 : ∀ b ∈ fp, FpOk X pins (upd H s2.heap.objs.size (.lst [])) b := fun b hb => by
    obtain ⟨f0, f1⟩ := fpok b hb
    refine ⟨?_, f1⟩
    rw [upd_ne (Nat.ne_of_lt (fplt b hb))]
    exact f0
  have old34 : ∀ b o, s3.heap.get? b = some o → h₁.get? b = some o := fun b o e => hsb₁.extBut b o (Nat.ne_of_lt (Heap.lt_size e)) (Heap.get?_push_of_some _ e)
  have nob : ∀ b o, X.base.get? b = some o → b ∉ fp := fun b o e hb => by
    obtain ⟨_, _, _, f3, _, _⟩ := fpok b hb
    rcases f3 with f3 | f3
    · exact I.ok.noex b o e f3
    · exact absurd (Nat.lt_of_lt_of_le (Heap.lt_size e) I.ok.bsz) (Nat.not_lt.mpr f3)
  have hs4e : ({ s2 with heap := h₁, toks := s2.toks + ([] : List (Str × Value)).length } : Shared).os = s3.os := by rw [← hs3]
  have hs4g : ({ s2 with heap := h₁, toks := s2.toks + ([] : List (Str × Value)).length } : Shared).gens = s3.gens := by rw [← hs3]
  have I4 : Inv (blk X N scope cl s3.heap.objs.size s3 (upd H s2.heap.objs.size (.lst [])) fp) [] σc (upd H s2.heap.objs.size (.lst [])) { s2 with heap := h₁, toks := s2.toks + ([] : List (Str × Value)).length } :=
    blk_inv (s4 := { s2 with heap := h₁, toks := s2.toks + ([] : List (Str × Value)).length }) I3 hcl1 hcl2 hkind hcell hcap hlen rfl fp3 (fun b hb => Nat.lt_of_lt_of_le (fplt b hb) (by rw [hsz]; exact Nat.le_succ _)) nob ⟨_, hns₁⟩ old34 hs4e hs4g
  have st4 : tn 0 h₁ := T.keep _ _ _ st fun b hb o e => old34 b o (old23 b o e)
  unfold compW at h
  obtain ⟨W, ⟨m0, w0⟩, turn⟩ := h s2.heap.objs.size _ hf (Same.upd hf) upd_same
  have loop : codeAny (model X.prog X.w) X.A (.compLoop (.ListComp elt [⟨tg, iter, ifs, 0⟩] scope pos) 0 (.ref it) (.ref s2.heap.objs.size) (blk X N scope cl s3.heap.objs.size s3 (upd H s2.heap.objs.size (.lst [])) fp).env)
      (RR (.ref s2.heap.objs.size) s3.heap.objs.size) { s2 with heap := h₁, toks := s2.toks + ([] : List (Str × Value)).length } := by
    refine comp_loop (fun n s' => ∃ i ys σ' H', Inv (blk X N scope cl s3.heap.objs.size s3 (upd H s2.heap.objs.size (.lst [])) fp) [] σ' H' s' ∧ tn i s'.heap ∧ (∀ b ∈ fp, H' b = none) ∧ W i n ys σ' H') ?_ m0 ⟨0, [], σc, _, I4, st4, fun b hb => (fp3 b hb).1, w0⟩
    rintro n s5 ⟨i, ys, σ5, H5, I5, st5, fr5, w5⟩
    obtain ⟨hacc, hl5, hcase⟩ := turn i n ys σ5 H5 w5
    have stat : ∀ {H' : Hp}, (∀ b ∈ fp, H' b = none) → ∀ b ∈ fp, FpOk (blk X N scope cl s3.heap.objs.size s3 (upd H s2.heap.objs.size (.lst [])) fp) [] H' b := fun hn b hb => by
      obtain ⟨_, f1, f2, f3, f4, _⟩ := fpok b hb
      refine ⟨hn b hb, Nat.ne_of_lt (Nat.lt_of_lt_of_le (fplt b hb) (by rw [hsz]; exact Nat.le_succ _)), fun hz => ?_, .inl hb, fun x c hx => f4 x c (hcl1 x c hx), fun p hp => by cases hp⟩
      rcases List.mem_cons.mp (I.stkSub b hz) with q | q
      · exact f1 q
      · exact f2 q
    rcases hcase with ⟨stop, hq⟩ | ⟨go, step⟩
    · refine thn (T.done (blk X N scope cl s3.heap.objs.size s3 (upd H s2.heap.objs.size (.lst [])) fp) rfl rfl rfl hc i [] s5 σ5 H5 (fun _ _ => False) I5 (stat fr5) st5 stop) fun r s6 ⟨hr, I6⟩ => ?_
      subst hr
      have u1 : Un (frs X.stack) fp H (upd H s2.heap.objs.size (.lst [])) s2.heap s3.heap := Un.laid old23 (Nat.le_refl _) hf
      have u2 : Un (frs X.stack) fp (upd H s2.heap.objs.size (.lst [])) H5 s3.heap s6.heap := I6.base
      have hC : H5 s3.heap.objs.size = none := I6.free
      obtain ⟨m6, hm6, _⟩ := I6.loc
      have hos : s6.os = s2.os := by rw [I6.os]; show s3.os = s2.os; rw [← hs3]
      have hok6 := I6.hok
      have bare6 := I6.bare
      obtain ⟨hh, gg, dd, tt', os'⟩ := s6
      obtain rfl : os' = s2.os := hos
      exact hRR _ _ H5 _ (I.call (h' := hh) (g' := gg) (d' := dd) (t' := tt') (ch := fp) (u1.trans u2) hok6 bare6 fun b hb => ⟨(fpok b hb).2.2.2.1, (fpok b hb).2.1, (fpok b hb).2.2.2.2.1, (fpok b hb).2.2.2.2.2⟩)
        (I.fpOk (by rw [hsz]; exact Nat.le_succ _) hC) ⟨m6, hm6⟩ hq
    · refine thn (T.item (blk X N scope cl s3.heap.objs.size s3 (upd H s2.heap.objs.size (.lst [])) fp) rfl rfl rfl hc i [] s5 σ5 H5 (fun _ _ => False) I5 (stat fr5) st5 go) fun r s6 ⟨u, hr, h6⟩ => ?_
      subst hr
      refine thn h6 fun _ s7 ⟨x, H7, I7, r7, y7, st7, fr7⟩ => ?_
      have I7' := I7.pinned (stat fr7) (T.obj _ _ st7)
      refine thn (hg _ _ _ _ _ s7 σ5 H7 x u _ I7' r7 (step x H7 y7)) fun _ s8 ⟨σ8, H8, I8, q8⟩ => ?_
      refine thn (ht _ _ _ _ _ s8 σ8 H8 _ I8 q8) fun ok s9 ⟨H9, I9, q9⟩ => ?_
      have again : ∀ {s10 : Shared} {σ10 : St} {H10 : Hp} {zs : List V}, Inv (blk X N scope cl s3.heap.objs.size s3 (upd H s2.heap.objs.size (.lst [])) fp) ([] ++ pinsAt fp s7.heap) σ10 H10 s10 → (∃ m', m' < n ∧ W (i + 1) m' zs σ10 H10) →
          ∃ m, m < n ∧ ∃ i ys σ' H', Inv (blk X N scope cl s3.heap.objs.size s3 (upd H s2.heap.objs.size (.lst [])) fp) [] σ' H' s10 ∧ tn i s10.heap ∧ (∀ b ∈ fp, H' b = none) ∧ W i m ys σ' H' := fun {s10 σ10 H10 zs} I10 ⟨m', hm, w10⟩ => by
        refine ⟨m', hm, i + 1, zs, σ10, H10, I10.unpinned, T.keep _ _ _ st7 fun b hb o e => (I10.pin (b, o) (List.mem_append_right _ (List.mem_append_right _ (mem_pinsAt hb e)))).1, fun b hb => ?_, w10⟩
        obtain ⟨o, e, d⟩ := T.obj _ _ st7 b hb
        exact (I10.pin (b, o) (List.mem_append_right _ (List.mem_append_right _ (mem_pinsAt hb e)))).2.1
      dsimp only at q9
      rw [br_iff] at q9
      cases ok with
      | false =>
        have q9 : ∃ m', m' < n ∧ W (i + 1) m' ys σ8 H9 := by rw [if_neg Bool.false_ne_true] at q9; unfold cSkip at q9; exact q9
        exact again I9 q9
      | true =>
        have q9 := (if_pos rfl ▸ q9 : te σ8 H9 _)
        refine thn (he _ _ _ _ _ s9 σ8 H9 _ I9 q9) fun v s10 ⟨y, H10, I10, r10, q10⟩ => ?_
        unfold cPut at q10
        obtain ⟨e10, q10⟩ := q10
        refine thn (mt_append _ s10 σ8 H10 (.ref s2.heap.objs.size) [y] (.ref s2.heap.objs.size) [v] (fun _ H11 => ∃ m', m' < n ∧ W (i + 1) m' (ys ++ [y]) σ8 H11) I10 rfl (.cons r10 .nil) ⟨_, ys, y, rfl, rfl, e10, hl5, q10 _ Chg.upd upd_same⟩) fun _ s11 ⟨z, H11, I11, _, q11⟩ => ?_
        exact again I11 q11
  exact codeAny_compStart_list loop (T.self _ 0 _ _ _ st4 loop)
/-- what the block sees of the frame: by slots -/
noncomputable def capS (ks : List (Option Nat)) (σ : St) : St := ks.map fun k => match k with
  | none => none
  | some j => (σ[j]?).join
inductive CapOk (X : Cx) (scope : Scope) : List Str → List (Option Nat) → Prop where
  | nil : CapOk X scope [] []
  | skip {x : Str} {N : List Str} {ks : List (Option Nat)} (t : CapOk X scope N ks) : CapOk X scope (x :: N) (none :: ks)
  | take {x : Str} {N : List Str} {ks : List (Option Nat)} {j : Nat} (h1 : X.N[j]? = some x) (h2 : scope.names.lookup x = some .free) (h3 : X.env.kindOf x = some .cell ∨ X.env.kindOf x = some .free) (t : CapOk X scope N ks) : CapOk X scope (x :: N) (some j :: ks)
theorem CapOk.cap {scope : Scope} {N : List Str} {ks : List (Option Nat)} (h : CapOk X scope N ks) (σ : St) : ∀ (i : Nat) (x : Str) (v : V), N[i]? = some x → (capS ks σ)[i]? = some (some v) → ∃ j : Nat, X.N[j]? = some x ∧ σ[j]? = some (some v) ∧ scope.names.lookup x = some .free ∧ (X.env.kindOf x = some .cell ∨ X.env.kindOf x = some .free) := by
  induction h with
  | nil => intro i x v h; simp at h
  | skip t ih =>
    intro i x v h1 h2
    cases i with
    | zero => simp [capS] at h2
    | succ i => exact ih i x v (by simpa using h1) (by simpa [capS] using h2)
  | take a b c t ih =>
    intro i x v h1 h2
    cases i with
    | zero =>
      simp only [List.getElem?_cons_zero, Option.some.injEq] at h1
      subst h1
      refine ⟨_, a, ?_, b, c⟩
      simpa [capS, Option.join_eq_some_iff] using h2
    | succ i => exact ih i x v (by simpa using h1) (by simpa [capS] using h2)
theorem CapOk.len {scope : Scope} {N : List Str} {ks : List (Option Nat)} (h : CapOk X scope N ks) (σ : St) : (capS ks σ).length = N.length := by
  have : ks.length = N.length := by
    induction h with
    | nil => rfl
    | skip t ih => simp [ih]
    | take a b c t ih => simp [ih]
  simp [capS, this]
noncomputable def qComp (ks : List (Option Nat)) (wi : TI) (g : TG) (tt : TT) (te : TE) : TE := fun σ H Q => wi σ H fun J H1 => compW J g tt te (capS ks σ) H1 Q
noncomputable def freeB (scope : Scope) (f : Str → Option NameKind) : Bool := scope.names.all fun x => x.2 != .free || (f x.1 == some .cell || f x.1 == some .free)
noncomputable def scopeB (scope : Scope) : Bool := scope.names.all (fun x => x.2 != .cell) && scope.names.all fun x => x.2 != .local || scope.names.lookup x.1 == some .local
theorem freeB_ok {scope : Scope} {f : Str → Option NameKind} (h : freeB scope f = true) : ∀ x ∈ scope.names, x.2 = .free → f x.1 = some .cell ∨ f x.1 = some .free := fun x hx hf => by
  have := List.all_eq_true.mp h x hx
  simpa [hf] using this
theorem scopeB_ok {scope : Scope} (h : scopeB scope = true) : (∀ y ∈ scope.names, y.2 ≠ .cell) ∧ ∀ x ∈ scope.names, x.2 = .local → scope.names.lookup x.1 = some .local := by
  unfold scopeB at h
  rw [Bool.and_eq_true] at h
  refine ⟨fun y hy => ?_, fun x hx hl => ?_⟩
  · have := List.all_eq_true.mp h.1 y hy
    simpa using this
  · have := List.all_eq_true.mp h.2 x hx
    simpa [hl] using this
theorem peComp {elt tg iter : Expr} {ifs : List Expr} {scope : Scope} {pos : Pos} {N : List Str} {ks : List (Option Nat)} {wi : TI} {g : TG} {tt : TT} {te : TE} (hi : PI X tg iter wi)
    (hg : ∀ cl C s3 H3 fp, PG (blk X N scope cl C s3 H3 fp) tg g) (ht : ∀ cl C s3 H3 fp, PTs (blk X N scope cl C s3 H3 fp) ifs tt) (he : ∀ cl C s3 H3 fp, PE (blk X N scope cl C s3 H3 fp) elt te) (hcap : CapOk X scope N ks)
    (hc : X.calm = true := by rfl) (hkind : scope.kind = .function := by rfl) (hb : freeB scope X.env.kindOf = true := by rfl) (hn : scopeB scope = true := by rfl) (hs : ∀ x, foldedSetIterable iter X.env x = pure x := by intro _; rfl) :
    PE X (.ListComp elt [⟨tg, iter, ifs, 0⟩] scope pos) (qComp ks wi g tt te) := by
  intro pins s σ H Q I h
  obtain ⟨hcell, hnames⟩ := scopeB_ok hn
  obtain ⟨cl, hcl, hcl1, hcl2⟩ := closure_ok (scope := scope) (env := X.env) fun x hx hf => I.ok.has x.1 (freeB_ok hb x hx hf)
  rw [eval_ListComp]
  refine wpAny_comprehension_free (use := none) rfl hs hcl hkind hnames ?_
  show wpAny _ _ (eval iter X.env) _ _ s
  refine thn (hi pins s σ H _ I h) fun v s1 h1 => thn h1 fun itv s2 h2 => ?_
  obtain ⟨it, fp, tn, J, H2, e, I2, T, st2, f2, q2⟩ := h2
  subst e
  refine comp_core (RR := fun acc C => compPost (model X.prog X.w) X.A X.xe none (EP X pins σ Q) acc C) hcl1 hcl2 hkind hcell (hcap.cap σ) (hcap.len σ) hc I2 T st2 f2 (hg cl) (ht cl) (he cl) q2 ?_
  rintro acc C H' s' I' hC ⟨m, hm⟩ hq
  refine ⟨m, hm, fun h' hsb => ⟨.ref acc, H', ?_, rfl, hq⟩⟩
  exact I'.turned (t' := s'.toks) (fun b o hb e => hsb.extBut b o hb e) hC.1 hC.2.1 hC.2.2.2.1 hC.2.2.2.2.1 hC.2.2.2.2.2
/-- name = [.. for ..], the name a plain local -/
theorem psC {i : Nat} {y : Str} {py spos : Pos} {elt tg iter : Expr} {ifs : List Expr} {scope : Scope} {pos : Pos} {N : List Str} {ks : List (Option Nat)} {wi : TI} {g : TG} {tt : TT} {te : TE} (hN : X.N.Nodup) (hi : PI X tg iter wi)
    (hg : ∀ cl C s3 H3 fp, PG (blk X N scope cl C s3 H3 fp) tg g) (ht : ∀ cl C s3 H3 fp, PTs (blk X N scope cl C s3 H3 fp) ifs tt) (he : ∀ cl C s3 H3 fp, PE (blk X N scope cl C s3 H3 fp) elt te) (hcap : CapOk X scope N ks)
    (hy : X.N[i]? = some y := by rfl) (hl : X.env.scope.names.lookup y = some .local := by rfl) (hsw : swapsWith (.ListComp elt [⟨tg, iter, ifs, 0⟩] scope pos) (some (.Name y py)) spos.line X.env = pure true := by rfl)
    (hc : X.calm = true := by rfl) (hkind : scope.kind = .function := by rfl) (hb : freeB scope X.env.kindOf = true := by rfl) (hn : scopeB scope = true := by rfl) (hs : ∀ x, foldedSetIterable iter X.env x = pure x := by intro _; rfl) :
    PS X (.Assign [.Name y py] (.ListComp elt [⟨tg, iter, ifs, 0⟩] scope pos) spos) (tAsg (qComp ks wi g tt te) (gName i)) := by
  intro pins s σ H D I h
  obtain ⟨hcell, hnames⟩ := scopeB_ok hn
  obtain ⟨cl, hcl, hcl1, hcl2⟩ := closure_ok (scope := scope) (env := X.env) fun x hx hf => I.ok.has x.1 (freeB_ok hb x hx hf)
  rw [exec_Assign_Name_used _ _ _ _ hsw]
  refine wpAny_bind (wpAny_standAt (wpAny_bind ?_))
  show wpAny _ X.A (do let _ ← comprehension (.ListComp elt [⟨tg, iter, ifs, 0⟩] scope pos) scope X.env _ (newList []) false (eval iter X.env) (some (assign (.Name y py) X.env))) _ _ s
  refine wpAny_bind (wpAny_mono (wpAny_comprehension_free (use := some (assign (.Name y py) X.env)) (Q := fun _ s' => SP X pins D .next s') rfl hs hcl hkind hnames ?_) (fun _ s' hq => wpAny_pure (wpAny_pure hq)) fun _ _ e => e)
  refine thn (hi pins s σ H _ I h) fun v s1 h1 => thn h1 fun itv s2 h2 => ?_
  obtain ⟨it, fp, tn, J, H2, e, I2, T, st2, f2, q2⟩ := h2
  subst e
  refine comp_core (RR := fun acc C => compPost (model X.prog X.w) X.A X.xe (some (assign (.Name y py) X.env)) (fun _ s' => SP X pins D .next s') acc C) hcl1 hcl2 hkind hcell (hcap.cap σ) (hcap.len σ) hc I2 T st2 f2 (hg cl) (ht cl) (he cl) q2 ?_
  rintro acc C H' s' I' hC ⟨m, hm⟩ hq
  show wpAny _ _ (assign (.Name y py) X.env (.ref acc)) _ _ _
  refine wpAny_assign_Name (store_ok2 I' hN hy (.inl hl) (v := .ref acc) rfl (fun s'' I'' hsb => ?_) (.inr hl))
  obtain ⟨a, hsb, ha⟩ := hsb
  have hCa : C ≠ a := by
    rcases ha with ha | ha
    · rw [ha]; exact hC.2.1
    · exact (hC.2.2.2.2.1 y a ha).symm
  refine ⟨m, hm.sameBut hsb hCa, fun h' hsb' => ⟨σ.set i (some (.ref acc)), H', ?_, hq⟩⟩
  exact I''.turned (t' := s''.toks) (fun b o hb e => hsb'.extBut b o hb e) hC.1 hC.2.1 hC.2.2.2.1 hC.2.2.2.2.1 hC.2.2.2.2.2
end
/-! ### how a comprehension is read -/
section
variable {K : PySem.W.Frag} {g : TG} {tt : TT} {te : TE} {σ0 : St} {H1 : Hp} {Q : VK}
end
end L2

set_option Elab.async false
set_option linter.all false
set_option maxRecDepth 100000
set_option maxHeartbeats 2000000
namespace L2
open PySem PySem.Spec PyProof.Rows
section
variable {X : Cx}
/-! ### sum, all, list, tuple of what is read -/
@[irreducible] noncomputable def rSumA (K : PySem.W.Frag) (p : Addr) (H : Hp) (Q : VK) : Prop := ∃ ns : List Int, SqL K H p (ns.map V.int) ∧ Q (.int ns.sum) H
noncomputable def rSumM (K : PySem.W.Frag) : List V → Hp → VK → Prop := fun xs H Q => match xs with
  | [.ref p] => rSumA K p H Q
  | _ => False
theorem cSum (hc : X.calm = true) : CallR X (.builtin "sum") (rSumM X.K) := fun pins s σ H xs us Q I r h => by
  unfold rSumM at h
  split at h
  · unfold rSumA at h
    obtain ⟨ns, h1, h2⟩ := h
    obtain ⟨u, rfl, rx⟩ := vals1 r
    cases rx
    obtain ⟨its, r', pl, hz⟩ := I.list h1
    have hi := intsAre_of r'
    obtain ⟨ys, hx⟩ := hi.allInts.items
    have hl' : s.heap.IsList _ (intItems ys) := hx ▸ pl.isList
    refine sum_intListG (I.ok.hd hc) hl' fun h' tk t' hk => ?_
    have e1 : ns = ys.toList.map (·.1) := by
      rw [← nums_intItems, ← hx]
      exact (show numsOf its.toArray.toList = ns from hi.numsOf).symm
    have e2 : preSum (numAt ys) ys.size = ns.sum := by
      rw [preSum_eq, List.take_of_length_le (by simp), e1]
    rw [e2]
    exact ⟨.int ns.sum, H, I.kept hk, ⟨_, rfl⟩, h2⟩
  · exact h.elim
theorem sum_rd {K : PySem.W.Frag} {p : Addr} {H : Hp} {Q : VK} {ns : List Int} (h : H p = some (.lst (ns.map V.int))) (q : Q (.int ns.sum) H) : rSumA K p H Q := by unfold rSumA; exact ⟨ns, SqL.of h, q⟩
theorem boolsAre_of : ∀ {bs : List Bool} {us : List Value}, Vals (bs.map V.bl) us → LSm.BoolsAre us bs
  | [], us, r => by rw [List.map_nil] at r; cases r; exact .nil
  | b :: bs, us, r => by
    rw [List.map_cons] at r
    cases r with
    | cons r1 r2 =>
      cases r1
      exact .cons b (boolsAre_of r2)
@[irreducible] noncomputable def rAllA (K : PySem.W.Frag) (p : Addr) (H : Hp) (Q : VK) : Prop := ∃ bs : List Bool, SqL K H p (bs.map V.bl) ∧ Q (.bl (bs.all id)) H
noncomputable def rAllM (K : PySem.W.Frag) : List V → Hp → VK → Prop := fun xs H Q => match xs with
  | [.ref p] => rAllA K p H Q
  | _ => False
theorem cAll (hc : X.calm = true) : CallR X (.builtin "all") (rAllM X.K) := fun pins s σ H xs us Q I r h => by
  unfold rAllM at h
  split at h
  · rename_i p
    unfold rAllA at h
    obtain ⟨bs, h1, h2⟩ := h
    obtain ⟨u, rfl, rx⟩ := vals1 r
    cases rx
    obtain ⟨its, r', pl, hz⟩ := I.list h1
    have hb := boolsAre_of r'
    have hlt : p < s.heap.objs.size := by obtain ⟨_, e, _⟩ := pl.isList; exact Heap.lt_size e
    refine call_all_walk (wpAny_pyIter_list pl.isList ?_)
    refine ⟨s.heap.objs.size, [s.heap.objs.size, _], [s.heap.objs.size], its.toArray.size, _, _, fun i => (bs[i]?).getD true, rfl, Walks.list (A := X.A.in1) (I.ok.hd hc) _ _ (Nat.ne_of_lt hlt) its.toArray,
      ⟨⟨_, Heap.get?_push_size _ rfl, rfl, rfl⟩, pl.isList.push _⟩, fun i v s' Q' E' hP hQ => ?_, fun h' tk hk => ?_⟩
    · obtain ⟨b, e, rfl⟩ := hb.get i v (by simpa using hP)
      simp only [e, Option.getD_some] at hQ
      exact wpAny_truthy_bool hQ
    · have e : ((List.range its.toArray.size).all fun i => (bs[i]?).getD true) = bs.all id := by
        rw [List.size_toArray, hb.length]; exact LSm.range_all bs
      rw [e]
      exact ⟨.bl _, H, I.kept (LSm.kept_iter hk), rfl, h2⟩
  · exact h.elim
theorem all_rd {K : PySem.W.Frag} {p : Addr} {H : Hp} {Q : VK} {bs : List Bool} (h : H p = some (.lst (bs.map V.bl))) (q : Q (.bl (bs.all id)) H) : rAllA K p H Q := by unfold rAllA; exact ⟨bs, SqL.of h, q⟩
@[irreducible] noncomputable def rListA (K : PySem.W.Frag) (p : Addr) (H : Hp) (Q : VK) : Prop := ∃ ys, (SqL K H p ys ∨ SqT K H p ys) ∧ ∀ l H', H l = none → Same H H' → H' l = some (.lst ys) → Q (.ref l) H'
noncomputable def rListM (K : PySem.W.Frag) : List V → Hp → VK → Prop := fun xs H Q => match xs with
  | [.ref p] => rListA K p H Q
  | _ => False
theorem cList : CallR X (.type "list") (rListM X.K) := fun pins s σ H xs us Q I r h => by
  unfold rListM at h
  split at h
  · unfold rListA at h
    obtain ⟨ys, h1, h2⟩ := h
    exact call_list_of pins s σ H _ us Q I r ⟨_, ys, rfl, h1, fun l hl => h2 l _ hl (Same.upd hl) upd_same⟩
  · exact h.elim
theorem listL_rd {K : PySem.W.Frag} {p : Addr} {H : Hp} {Q : VK} {ys : List V} (h : SqL K H p ys) (q : ∀ l H', H l = none → Same H H' → H' l = some (.lst ys) → Q (.ref l) H') : rListA K p H Q := by unfold rListA; exact ⟨ys, .inl h, q⟩
/-! ### methods of lists -/
@[irreducible] noncomputable def rLstIs (K : PySem.W.Frag) (p : Addr) (H : Hp) (R : Prop) : Prop := (∃ xs, SqL K H p xs) ∧ R
noncomputable def qBM (K : PySem.W.Frag) (r : Addr → List V → Hp → VK → Prop) (to : TE) (t : TA) : TE := fun σ H Q => to σ H fun x H1 => match x with
  | .ref p => rLstIs K p H1 (t σ H1 fun xs H2 => r p xs H2 Q)
  | _ => False
theorem lst_is {K : PySem.W.Frag} {p : Addr} {H : Hp} {R : Prop} {xs : List V} (h : H p = some (.lst xs)) (q : R) : rLstIs K p H R := by unfold rLstIs; exact ⟨⟨xs, SqL.of h⟩, q⟩
noncomputable def MtA (X : Cx) (id : String) (r : Addr → List V → Hp → VK → Prop) : Prop :=
  ∀ (pins : List (Addr × Obj)) (s : Shared) (σ : St) (H : Hp) (p : Addr) (xs : List V) (us : List Value) (Q : VK), Inv X pins σ H s → Vals xs us → r p xs H Q →
    wpAny (model X.prog X.w) X.A (call (.builtin id) (.ref p :: us)) (EP X pins σ Q) X.xe s
theorem peBM {o e : Expr} {es : List Expr} {to : TE} {t : TA} {name : Str} {apos cpos : Pos} {id : String} {r : Addr → List V → Hp → VK → Prop} (slot : Slot "list" name id) (hty : typeOf (.builtin id) = pure (.type "method_descriptor")) (hm : MtA X id r) (ho : PE X o to) (ha : PA X (e :: es) t)
    (hbase : attributeBase o name X.env (eval o X.env) = eval o X.env := by rfl)
    (hfew : ((backTo cpos (starEach (e :: es) X.env)).all (fun x => !x.1) && (backToKw cpos (keywordEach [] X.env)).all (fun x => x.1.isSome)
      && decide ((e :: es).length + ([] : List Keyword).length + (if ([] : List Keyword).isEmpty then 0 else 1) < 30)) = true := by rfl)
    (hline : (apos.endLine == cpos.line) = true := by rfl) (hs : starEach (e :: es) X.env = (false, eval e X.env) :: starEach es X.env := by rfl) (hplain : (backTo cpos (starEach es X.env)).any (·.1) = false := by rfl) :
    PE X (.Call (.Attribute o name apos) (e :: es) [] cpos) (qBM X.K r to t) := by
  intro pins s σ H Q I h
  refine wpAny_Call_method_late hbase hfew hline rfl (thn (ho pins s σ H _ I h) fun v s1 ⟨x, H1, I1, r1, q1⟩ => ?_)
  dsimp only at q1
  split at q1
  · rename_i p
    unfold rLstIs at q1
    obtain ⟨hq, q1⟩ := q1
    obtain ⟨h1, h2⟩ := tyV_is (T := "list") I1 r1 (.inl ⟨rfl, hq⟩)
    refine ⟨"list", id, PySem.F.plainAttrs_list, slot, hty, h1, h2, ?_⟩
    have hA := ha cpos pins s1 σ H1 _ I1 q1
    rw [hs] at hA ⊢
    refine Calls.callWith_builtin (by show (false || (backTo cpos (starEach es X.env)).any (·.1)) = false; rw [hplain] <;> rfl) (Calls.evalArgs_plain ?_)
    cases r1
    exact thn hA fun us s2 ⟨vs, H2, I2, r2, q2⟩ => hm pins s2 σ H2 p vs us Q I2 r2 q2
  · exact q1.elim
@[irreducible] noncomputable def rAppA (p : Addr) (v : V) (H : Hp) (Q : VK) : Prop := ∃ xs, H p = some (.lst xs) ∧ xs.length < sizeLine ∧ ∀ H', Chg p H H' → H' p = some (.lst (xs ++ [v])) → Q .non H'
noncomputable def rAppM : Addr → List V → Hp → VK → Prop := fun p vs H Q => match vs with
  | [v] => rAppA p v H Q
  | _ => False
theorem mAppend : MtA X "list.append" rAppM := fun pins s σ H p xs us Q I r h => by
  unfold rAppM at h
  split at h
  · unfold rAppA at h
    obtain ⟨ys, h1, h2, h3⟩ := h
    exact mt_append pins s σ H (.ref p) _ (.ref p) us Q I rfl r ⟨p, ys, _, rfl, rfl, h1, h2, h3 _ Chg.upd upd_same⟩
  · exact h.elim
theorem app_rd {p : Addr} {v : V} {H : Hp} {Q : VK} {xs : List V} (h : H p = some (.lst xs)) (hz : xs.length < sizeLine) (q : ∀ H', Chg p H H' → H' p = some (.lst (xs ++ [v])) → Q .non H') : rAppA p v H Q := by unfold rAppA; exact ⟨xs, h, hz, q⟩
theorem peM_append {o e : Expr} {to : TE} {t : TA} {apos cpos : Pos} (ho : PE X o to) (ha : PA X [e] t) (hbase : attributeBase o "append" X.env (eval o X.env) = eval o X.env := by rfl)
    (hfew : ((backTo cpos (starEach [e] X.env)).all (fun x => !x.1) && (backToKw cpos (keywordEach [] X.env)).all (fun x => x.1.isSome)
      && decide ([e].length + ([] : List Keyword).length + (if ([] : List Keyword).isEmpty then 0 else 1) < 30)) = true := by rfl)
    (hline : (apos.endLine == cpos.line) = true := by rfl) (hs : starEach [e] X.env = (false, eval e X.env) :: starEach [] X.env := by rfl) (hplain : (backTo cpos (starEach [] X.env)).any (·.1) = false := by rfl) : PE X (.Call (.Attribute o "append" apos) [e] [] cpos) (qBM X.K rAppM to t) :=
  peBM PySem.F.slot_list_append PySem.F.type_list_append mAppend ho ha hbase hfew hline hs hplain
/-! ### name op= e -/
/-! ### is None -/
/-! ### a, b = a list -/
section
variable {prog : Program} {w : World} {A : Around} {E : Value → Shared → Prop} {s : Shared}
theorem draw_list {it t : Addr} {items : Array Value} (hne : t ≠ it) : ∀ (n i : Nat) (s : Shared) (Q : List Value → Shared → Prop), s.heap.IsListIter it t i → s.heap.IsList t items → i + n ≤ items.size →
    (∀ h', h'.IsListIter it t (i + n) → Heap.SameBut it s.heap h' → Q ((items.toList.drop i).take n) { s with heap := h' }) → wpAny (model prog w) A (draw (.ref it) n) Q E s
  | 0, i, s, Q, hit, _, _, hQ => by
    show wpAny _ _ (pure []) Q E s
    exact wpAny_pure (by simpa using hQ s.heap hit (Heap.SameBut.refl ..))
  | n + 1, i, s, Q, hit, ht, hle, hQ => by
    have hlt : i < items.size := by omega
    show wpAny _ _ (pyNext (.ref it) >>= _) Q E s
    refine wpAny_bind (wpAny_pyNext_list_item hit ht (x := items[i]) (by simp [hlt]) fun h₁ hit₁ hs₁ => ?_)
    refine wpAny_bind (wpAny_holding (draw_list hne n (i + 1) _ _ hit₁ (ht.extBut hs₁.extBut hne) (by omega) fun h₂ hit₂ hs₂ => wpAny_pure ?_))
    have hd : items.toList.drop i = items[i] :: items.toList.drop (i + 1) := by simp [List.drop_eq_getElem_cons, hlt]
    have := hQ h₂ (by rw [show i + (n + 1) = i + 1 + n by omega]; exact hit₂) (hs₁.trans hs₂)
    rw [hd, List.take_succ_cons] at this
    exact this
theorem assign_Tuple_list {env : Env} {elts : List Expr} {x1} {pos : Pos} {t : Addr} {items : Array Value} {Q : Unit → Shared → Prop} (hh : A.handled = none) (ht : s.heap.IsList t items)
    (hn : (assignEach elts env).length = items.size) (hstar : (assignEach elts env).findIdx? (·.1) = none)
    (h : ∀ h', Heap.ExtBut s.heap.objs.size s.heap h' → wpAny (model prog w) A (assignInOrder ((assignEach elts env).map (·.2)) items.toList) Q E { s with heap := h' }) :
    wpAny (model prog w) A (assign (.Tuple elts x1 pos) env (.ref t)) Q E s := by
  rw [assign_Tuple]
  refine wpAny_bind (wpAny_standAt ?_)
  unfold unpack
  rw [hn, hstar]
  refine wpAny_bind (wpAny_holding ?_)
  have hlt : t ≠ s.heap.objs.size := by obtain ⟨o, ho, _⟩ := ht; exact Nat.ne_of_lt (Heap.lt_size ho)
  unfold unpackItems
  refine wpAny_bind ?_
  unfold notIterableAtAll
  refine wpAny_bind (wpAny_specialOf ht.typeIs F.slot_list_iter.lookup ?_)
  refine wpAny_pure ?_
  simp only [Bool.false_eq_true, if_false]
  refine wpAny_bind (wpAny_holding (wpAny_pyIter_list ht ?_))
  refine wpAny_bind (wpAny_holding (draw_list hlt items.size 0 _ _ ⟨_, Heap.get?_push_size _ rfl, rfl, rfl⟩ (ht.push _) (by omega) fun h₁ hit₁ hs₁ => ?_))
  have hall : List.take items.size (List.drop 0 items.toList) = items.toList := by
    rw [List.drop_zero]; exact List.take_of_length_le (by simp)
  rw [hall]
  rw [if_neg (by simp)]
  have ht₁ : h₁.IsList t items := (ht.push _).extBut hs₁.extBut hlt
  refine wpAny_bind (wpAny_holding (wpAny_pyNext_list_end hh hit₁ ht₁ (by simp) fun h₂ he₂ => ?_))
  simp only [Option.isSome_none, Bool.false_eq_true, if_false]
  exact wpAny_pure (h h₂ fun b o hb e => he₂ b o hb (hs₁.extBut b o hb (Heap.get?_push_of_some _ e)))
end
@[irreducible] noncomputable def rUnpA (K : PySem.W.Frag) (a : Addr) (n : Nat) (t : TGs) (σ : St) (H : Hp) (Q : St → Hp → Prop) : Prop := ∃ xs, (SqT K H a xs ∨ SqL K H a xs) ∧ xs.length = n ∧ t xs σ H Q
noncomputable def qgAny (K : PySem.W.Frag) (n : Nat) (t : TGs) : TG := fun v σ H Q => match v with
  | .ref a => rUnpA K a n t σ H Q
  | _ => False
theorem pgAny {pos : Pos} {es : List Expr} {k : Nat} {t : TGs} {n : Nat} (hc : X.calm = true) (h : PGs X es t)
    (hn : (assignEach es X.env).length = n := by rfl) (hst : (assignEach es X.env).findIdx? (·.1) = none := by rfl) : PG X (.Tuple es k pos) (qgAny X.K n t) := fun pins s σ H v u Q I r hq => by
  unfold qgAny at hq
  split at hq
  · unfold rUnpA at hq
    obtain ⟨xs, a1, a2, a3⟩ := hq
    rcases a1 with a1 | a1
    · exact pg_tup hc h hn hst pins s σ H _ u Q I r ⟨_, xs, rfl, a1, a2, a3⟩
    · cases r
      obtain ⟨its, rv, pl, hz⟩ := I.list a1
      refine assign_Tuple_list (I.ok.hd hc) pl.isList (by simp [hn, ← a2, rv.length]) hst fun h' hx => ?_
      have I1 : Inv X pins σ H { s with heap := h' } := I.kept (t' := s.toks) fun b o e => hx b o (Nat.ne_of_lt (Heap.lt_size e)) e
      exact h pins _ σ H xs _ Q I1 (by simpa using rv) a3
  · exact hq.elim
theorem unpT_rd {K : PySem.W.Frag} {a : Addr} {n : Nat} {t : TGs} {σ : St} {H : Hp} {Q : St → Hp → Prop} {xs : List V} (h : H a = some (.tup xs)) (q : t xs σ H Q) (e : xs.length = n := by rfl) : rUnpA K a n t σ H Q := by
  unfold rUnpA; exact ⟨xs, .inl (SqT.of h), e, q⟩
end
/-! ### two objects may have changed -/
noncomputable def Chg2 (a c : Addr) (H H' : Hp) : Prop := ∀ b o, b ≠ a → b ≠ c → H b = some o → H' b = some o
theorem Chg2.refl (a c : Addr) (H : Hp) : Chg2 a c H H := fun _ _ _ _ e => e
theorem Chg2.trans {a c : Addr} {H H1 H2 : Hp} (x : Chg2 a c H H1) (y : Chg2 a c H1 H2) : Chg2 a c H H2 := fun b o h1 h2 e => y b o h1 h2 (x b o h1 h2 e)
theorem Chg2.same {a c : Addr} {H H1 H2 : Hp} (x : Chg2 a c H H1) (y : Same H1 H2) : Chg2 a c H H2 := fun b o h1 h2 e => y b o (x b o h1 h2 e)
theorem Chg.toL {a c : Addr} {H H1 : Hp} (x : Chg a H H1) : Chg2 a c H H1 := fun b o h1 _ e => x b o h1 e
theorem Chg.toR {a c : Addr} {H H1 : Hp} (x : Chg c H H1) : Chg2 a c H H1 := fun b o _ h2 e => x b o h2 e
theorem Same.to2 {a c : Addr} {H H1 : Hp} (x : Same H H1) : Chg2 a c H H1 := fun b o _ _ e => x b o e
theorem Chg2.at {a c b : Addr} {o : HO} {H H' : Hp} (x : Chg2 a c H H') (e : H b = some o) (h1 : b ≠ a) (h2 : b ≠ c) : H' b = some o := x b o h1 h2 e
/-! == with an empty list -/
/-! ### comprehensions whose elements change things: the word speaks of the heap by itself -/
noncomputable def cV (n : Nat) (acc : Addr) (Pv : Nat → List V → St → Hp → Prop) : Nat → Nat → List V → St → Hp → Prop := fun i m ys σ H => m = n - i ∧ i ≤ n ∧ ys.length ≤ i ∧ H acc = some (.lst ys) ∧ Pv i ys σ H
section
variable {K : PySem.W.Frag} {g : TG} {tt : TT} {te : TE} {σ0 : St} {H1 : Hp} {Q : VK}
theorem cputV_rd {n i m : Nat} {acc : Addr} {Pv : Nat → List V → St → Hp → Prop} {ys : List V} {σ2 : St} {v : V} {H5 : Hp} (hi : i < n) (hm : m = n - i) (hl : ys.length ≤ i) (ha : H5 acc = some (.lst ys))
    (q : ∀ H6, Chg acc H5 H6 → H6 acc = some (.lst (ys ++ [v])) → Pv (i + 1) (ys ++ [v]) σ2 H6) : cPut (cV n acc Pv) acc ys i m σ2 v H5 := by
  unfold cPut
  exact ⟨ha, fun H6 hc h6 => ⟨n - (i + 1), by omega, rfl, by omega, by rw [List.length_append, List.length_singleton]; omega, h6, q H6 hc h6⟩⟩
theorem comp_rangeV {lo : Int} {n : Nat} (hn : n < sizeLine) (h : ∀ acc H2, H1 acc = none → Same H1 H2 → H2 acc = some (.lst []) → ∃ Pv : Nat → List V → St → Hp → Prop, Pv 0 [] σ0 H2 ∧
    (∀ i m ys σ H, i < n → m = n - i → ys.length ≤ i → H acc = some (.lst ys) → Pv i ys σ H → g (.int (lo + i)) σ H fun σ2 H3 => tt σ2 H3 fun b H4 => br b (te σ2 H4 fun v H5 => cPut (cV n acc Pv) acc ys i m σ2 v H5) (cSkip (cV n acc Pv) ys i m σ2 H4)) ∧
    ∀ ys σ H, H acc = some (.lst ys) → Pv n ys σ H → Q (.ref acc) H) : compW (Itr lo n) g tt te σ0 H1 Q := by
  unfold compW
  intro acc H2 hf hs ha
  obtain ⟨Pv, h0, turn, fin⟩ := h acc H2 hf hs ha
  refine ⟨cV n acc Pv, ⟨n, by simp, Nat.zero_le _, Nat.le_refl _, ha, h0⟩, ?_⟩
  rintro i m ys σ H ⟨hm, hi, hl, ha', hp⟩
  refine ⟨ha', by omega, ?_⟩
  by_cases hlt : i < n
  · refine .inr ⟨hlt, fun x H' y => ?_⟩
    obtain ⟨e, y⟩ := y
    subst e y
    exact turn i m ys σ _ hlt hm hl ha' hp
  · have e : i = n := by omega
    subst e
    exact .inl ⟨Nat.le_refl _, fin ys σ H ha' hp⟩
end
/-! ### the rules by the written part itself, so that a block's reading hangs on nothing of the block -/
section
variable {X : Cx} {K : PySem.W.Frag}
theorem peIxK {a b : Expr} {ta tb : TE} {pos : Pos} (hK : X.K = K) (ha : PE X a ta) (hb : PE X b tb) (hs : PlainIx b := by exact fun _ _ => rfl) : PE X (.Subscript a b pos) (tOp (rIxM K) ta tb) := by subst hK; exact peIx ha hb hs
theorem cLenK (hK : X.K = K) : CallR X (.builtin "len") (rLenM K) := by subst hK; exact cLen
theorem cIsiK (hK : X.K = K) : CallR X (.builtin "isinstance") (rIsiM K) := by subst hK; exact cIsi
theorem cSumK (hK : X.K = K) (hc : X.calm = true) : CallR X (.builtin "sum") (rSumM K) := by subst hK; exact cSum hc
theorem cAllK (hK : X.K = K) (hc : X.calm = true) : CallR X (.builtin "all") (rAllM K) := by subst hK; exact cAll hc
theorem cListK (hK : X.K = K) : CallR X (.type "list") (rListM K) := by subst hK; exact cList
theorem oEqK (hK : X.K = K) (hu : X.A.units + 40 < cLine) : OpR X (compareOp .Eq) (rEqM K) := by subst hK; exact oEq hu
theorem oNeK (hK : X.K = K) (hu : X.A.units + 40 < cLine) : OpR X (compareOp .NotEq) (rNeM K) := by subst hK; exact oNe hu
theorem piSeqK {tg l : Expr} {tl : TE} (hK : X.K = K) (hl : PE X l tl) : PI X tg l (qiSeq K tl) := by subst hK; exact piSeq hl
theorem pgAnyK {pos : Pos} {es : List Expr} {k : Nat} {t : TGs} {n : Nat} (hK : X.K = K) (hc : X.calm = true) (h : PGs X es t)
    (hn : (assignEach es X.env).length = n := by rfl) (hst : (assignEach es X.env).findIdx? (·.1) = none := by rfl) : PG X (.Tuple es k pos) (qgAny K n t) := by subst hK; exact pgAny hc h hn hst
end
end L2

set_option Elab.async false
set_option linter.all false
set_option maxRecDepth 100000
set_option maxHeartbeats 2000000
namespace L2
open PySem PySem.Spec PyProof.Rows
/-! ### enumerate over a list -/
noncomputable def Ite (K : PySem.W.Frag) (a : Addr) : It :=
  ⟨fun i H => ∃ xs x, SqL K H a xs ∧ xs[i]? = some x, fun i H v H' => ∃ p y, v = .ref p ∧ H p = none ∧ Same H H' ∧ H' p = some (.tup [.int i, y]) ∧ ∀ xs, SqL K H a xs → xs[i]? = some y, fun i H => ∃ xs, SqL K H a xs ∧ xs.length ≤ i⟩
theorem turn_enum {P : Program} {w : World} {K : PySem.W.Frag} {elts : List Expr} {k : Nat} {pos : Pos} (a it e : Addr) (hne : e ≠ it) : Turn P w K (.Tuple elts k pos) (Ite K a) [it, e] e (fun i h => (∃ old, IsEnum h e it i old) ∧ h.IsListIter it a i) where
  mem := by simp
  obj := fun i h st b hb => by
    obtain ⟨⟨old, he⟩, o, e1, c, d⟩ := st
    rcases List.mem_cons.mp hb with rfl | hb
    · exact ⟨o, e1, fun v z => by rw [d] at z; cases z⟩
    · have : b = e := by simpa using hb
      subst this
      exact ⟨_, he, fun v z => by cases z⟩
  keep := fun i h h' st kp => by
    obtain ⟨⟨old, he⟩, hi⟩ := st
    exact ⟨⟨old, kp e (by simp) _ he⟩, hi.at fun o x => kp it (by simp) o x⟩
  item := by
    intro X hP hw hK hc i pins s σ H E I hf st hg
    subst hP hw hK
    obtain ⟨⟨old, he⟩, hit⟩ := st
    obtain ⟨xs, x, hq, hx⟩ := hg
    obtain ⟨its, rv, p, hz⟩ := I.list hq
    obtain ⟨u, hu, ru⟩ := rv.get hx
    obtain ⟨f0, f1, f2, f3, f4, f5⟩ := hf it (by simp)
    obtain ⟨g0, g1, g2, g3, g4, g5⟩ := hf e (by simp)
    refine wpAny_pyNext_enum_item he hit p.isList (x := u) (by simpa using hu) hne fun h1 heo hit1 ht1 hz1 hk1 => ?_
    refine ⟨_, rfl, wpAny_letOwnedTupleGo_enum heo fun h2 he2 hs2 => ?_⟩
    replace hs2 : Heap.SameBut e h1 h2 := hs2
    have hel : e < s.heap.objs.size := Heap.lt_size he
    have kp : ∀ b o, b ∉ [it, e] → s.heap.get? b = some o → h2.get? b = some o := fun b o hb x => by
      have b1 : b ≠ it := fun z => hb (by simp [z])
      have b2 : b ≠ e := fun z => hb (by simp [z])
      exact (hs2.2 b b2).trans (hk1 b o b2 b1 x)
    have ht2 : h2.get? s.heap.objs.size = some { cls := .type "tuple", data := .seq #[.int i s.toks, u] } := (hs2.2 _ (Nat.ne_of_gt hel)).trans ht1
    have hfr : H s.heap.objs.size = none := I.fresh
    have nof : ∀ b v, H b = some v → b ∉ [it, e] := fun b v hb z => by
      rcases List.mem_cons.mp z with rfl | z
      · rw [f0] at hb; cases hb
      · have : b = e := by simpa using z
        subst this
        rw [g0] at hb; cases hb
    have nlt : ∀ b o, s.heap.get? b = some o → b ≠ s.heap.objs.size := fun b o x => Nat.ne_of_lt (Heap.lt_size x)
    have hok : HOk X.prog X.w (upd H s.heap.objs.size (.tup [.int i, x])) h2 := fun b v hb => by
      by_cases e1 : b = s.heap.objs.size
      · subst e1
        rw [upd_same] at hb
        cases hb
        exact ⟨by show 2 ≤ sizeLine; decide, [.int i s.toks, u], .cons ⟨_, rfl⟩ (.cons ru .nil), ⟨_, ht2, rfl, _, rfl⟩⟩
      · rw [upd_ne e1] at hb
        refine (I.hok b v hb).stay (fun c w' hc q => ?_) (fun c q => ?_) (fun c ys q => ?_)
        · rcases hc with rfl | hc
          · exact kp _ _ (nof _ _ hb) q
          · exact kp _ _ (nof _ _ hc) q
        · rw [upd_ne (ne_of_none q hfr)]; exact q
        · rw [upd_ne (ne_of_none q hfr)]; exact q
    have chs : ∀ b ∈ [it, e], (b ∈ X.ex ∨ X.s₀.heap.objs.size ≤ b) ∧ b ≠ X.env.locals ∧ (∀ x c, X.env.cells.lookup x = some c → c ≠ b) ∧ ∀ p ∈ X.pn ++ pins, p.1 ≠ b := fun b hb => by
      rcases List.mem_cons.mp hb with rfl | hb
      · exact ⟨f3, f1, f4, f5⟩
      · have : b = e := by simpa using hb
        subst this
        exact ⟨g3, g1, g4, g5⟩
    have I2 : Inv X pins σ (upd H s.heap.objs.size (.tup [.int i, x])) { s with heap := h2, toks := s.toks + 1 } :=
      I.step (g' := s.gens) (d' := s.drawn) (t' := s.toks + 1) (ch := [it, e]) chs (fun b o _ _ hb x _ => kp b o hb x) (fun b o _ _ hb x _ => ⟨o.slots, kp b o hb x⟩)
        (fun b o _ x n => by rw [upd_ne (nlt b o x)]; exact n) (fun b o hb x => ⟨o, kp b o hb x⟩) (fun b ys q => by rw [upd_ne (ne_of_none q hfr)]; exact q) (fun b o v q => by rw [upd_ne (ne_of_none q hfr)]; exact q)
        (fun b ps q => ⟨#[], by rw [upd_ne (ne_of_none q hfr), q]; simp⟩)
        (fun m hm => by
          obtain ⟨o, es, ep, ho, r⟩ := hm
          exact ⟨o, es, ep, kp _ o (fun z => by
            rcases List.mem_cons.mp z with z | z
            · exact f1 z.symm
            · exact g1 (by simpa using z : X.env.locals = e).symm) ho, r⟩) hok I.bare
    have hi1 : h2.IsListIter it a (i + 1) := hit1.extBut hs2.extBut (Ne.symm hne)
    have he3 : IsEnum h2 e it ((i + 1 : Nat) : Int) u := by
      have : ((i + 1 : Nat) : Int) = (i : Int) + 1 := by push_cast; rfl
      rw [this]; exact he2
    refine ⟨.ref s.heap.objs.size, _, I2, rfl, ⟨_, x, rfl, hfr, Same.upd hfr, upd_same, fun ys hy => by rw [I.list_inj hy hq]; exact hx⟩, ⟨⟨u, he3⟩, hi1⟩, fun b hb => ?_⟩
    have hb0 : H b = none := (hf b hb).1
    have hlt : b ≠ s.heap.objs.size := by
      rcases List.mem_cons.mp hb with rfl | hb
      · obtain ⟨o, ho, _⟩ := hit; exact nlt _ _ ho
      · have : b = e := by simpa using hb
        subst this
        exact Nat.ne_of_lt hel
    rw [upd_ne hlt]; exact hb0
  done := by
    intro X hP hw hK hc i pins s σ H E I hf st hg
    subst hP hw hK
    obtain ⟨⟨old, he⟩, hit⟩ := st
    obtain ⟨xs, hq, hx⟩ := hg
    obtain ⟨its, rv, p, hz⟩ := I.list hq
    obtain ⟨f0, f1, f2, f3, f4, f5⟩ := hf it (by simp)
    have hl := rv.length
    exact wpAny_pyNext_enum_end (I.ok.hd hc) he hit p.isList (by simp; omega) fun h' eb => ⟨rfl, I.turned (t' := s.toks) (fun b o hb e => eb b o hb e) f0 f1 f3 f4 f5⟩
  self := fun _ _ _ _ _ st h => by
    obtain ⟨⟨old, he⟩, _⟩ := st
    exact wpAny_pyIter_enum he h
section
variable {X : Cx} {K : PySem.W.Frag}
theorem bt_enumerate : bootBuiltins "enumerate" = some (.type "enumerate") := by decide +kernel
@[irreducible] noncomputable def rEnum (K : PySem.W.Frag) (a : Addr) (H : Hp) (R : It → Hp → Prop) : Prop := (∃ xs, SqL K H a xs) ∧ R (Ite K a) H
noncomputable def qiEnum (K : PySem.W.Frag) (ta : TA) : TI := fun σ H R => ta σ H fun vs H1 => match vs with
  | [.ref a] => rEnum K a H1 R
  | _ => False
theorem piEnum {elts : List Expr} {k : Nat} {pt : Pos} {a : Expr} {ta : TA} {p pos : Pos} (hm : X.mg "enumerate" = none) (ha : PA X [a] ta) (hg : Gl X "enumerate" := by rfl) (hs : starEach [a] X.env = [(false, eval a X.env)] := by rfl) :
    PI X (.Tuple elts k pt) (.Call (.Name "enumerate" p) [a] [] pos) (qiEnum X.K ta) := by
  intro pins s σ H R I h
  refine Call_ (ld_blt I hg hm bt_enumerate (PyProof.Rows.callWith_type1 (thn (ha pos pins s σ H _ I h) fun us s1 ⟨vs, H1, I1, r1, q1⟩ => ?_) hs rfl))
  dsimp only at q1
  split at q1
  · rename_i l
    unfold rEnum at q1
    obtain ⟨⟨xs, hq⟩, q⟩ := q1
    obtain ⟨u, rfl, rx⟩ := vals1 r1
    cases rx
    obtain ⟨its, rv, pl, hz⟩ := I1.list hq
    refine call_enumerate_list pl.isList fun h' he hit hsz hk => ?_
    refine wpAny_pyIter_enum he ?_
    have I2 : Inv X pins σ H1 { s1 with heap := h' } := I1.kept (t' := s1.toks) hk
    refine ⟨s1.heap.objs.size + 1, [s1.heap.objs.size, s1.heap.objs.size + 1], _, Ite X.K l, H1, rfl, I2, turn_enum l _ _ (Nat.succ_ne_self _), ⟨⟨_, he⟩, hit⟩, fun b hb => ?_, q⟩
    have hb' : s1.heap.objs.size ≤ b := by
      rcases List.mem_cons.mp hb with rfl | hb
      · exact Nat.le_refl _
      · have : b = s1.heap.objs.size + 1 := by simpa using hb
        subst this
        exact Nat.le_succ _
    exact I1.fpOk hb' (I1.hok.fresh hb')
  · exact q1.elim
theorem piEnumK {elts : List Expr} {k : Nat} {pt : Pos} {a : Expr} {ta : TA} {p pos : Pos} (hK : X.K = K) (hm : X.mg "enumerate" = none) (ha : PA X [a] ta) (hg : Gl X "enumerate" := by rfl) (hs : starEach [a] X.env = [(false, eval a X.env)] := by rfl) :
    PI X (.Tuple elts k pt) (.Call (.Name "enumerate" p) [a] [] pos) (qiEnum K ta) := by subst hK; exact piEnum hm ha hg hs
end
section
variable {K : PySem.W.Frag} {g : TG} {tb : TS} {D : Ends} {σ : St} {H : Hp} {R : It → Hp → Prop}
theorem enum_rd {a : Addr} {xs : List V} (h : H a = some (.lst xs)) (q : R (Ite K a) H) : rEnum K a H R := by unfold rEnum; exact ⟨⟨xs, SqL.of h⟩, q⟩
theorem loop_enum {a : Addr} {xs : List V} (Pv : Nat → St → Hp → Prop) (h0 : Pv 0 σ H) (hl : ∀ i σ H, i ≤ xs.length → Pv i σ H → SqL K H a xs)
    (hs : ∀ i y σ H p H', xs[i]? = some y → Pv i σ H → H p = none → Same H H' → H' p = some (.tup [.int i, y]) → g (.ref p) σ H' fun σ2 H2 => tb { D with nx := Pv (i + 1), ct := Pv (i + 1), bk := D.nx } σ2 H2) (hd : ∀ σ H, Pv xs.length σ H → D.nx σ H) : loopW (Ite K a) g tb D σ H := by
  unfold loopW
  refine ⟨fun i m σ H => m = xs.length - i ∧ i ≤ xs.length ∧ Pv i σ H, ⟨xs.length, by simp, Nat.zero_le _, h0⟩, ?_⟩
  rintro i m σ H ⟨rfl, hi, p⟩
  have q := hl i σ H hi p
  by_cases hlt : i < xs.length
  · refine .inr ⟨⟨xs, xs[i], q, by simp [hlt]⟩, Pv (i + 1), fun σ' H' p' => ⟨xs.length - (i + 1), by omega, rfl, hlt, p'⟩, fun x H' y => ?_⟩
    obtain ⟨pp, yy, rfl, y1, y2, y3, y4⟩ := y
    exact hs i yy σ H pp H' (y4 xs q) p y1 y2 y3
  · have e : i = xs.length := by omega
    subst e
    exact .inl ⟨⟨xs, q, Nat.le_refl _⟩, hd σ H p⟩
end
section
variable {K : PySem.W.Frag} {g : TG} {tt : TT} {te : TE} {σ0 : St} {H1 : Hp} {Q : VK}
end
/-! ### list.count of flat things -/
section
variable {X : Cx} {K : PySem.W.Frag}
end
end L2

set_option Elab.async false
set_option linter.all false
set_option maxRecDepth 100000
set_option maxHeartbeats 2000000
namespace L2
open PySem PySem.Spec PyProof.Rows
/-! ### slices -/
theorem cut_drop {xs : List V} {k : Int} (h : 0 ≤ k) : cutV xs (some k) none = xs.drop k.toNat := by
  show List.take (xs.length - (if k < 0 then (k + (xs.length : Int)).toNat else min k.toNat xs.length)) (List.drop (if k < 0 then (k + (xs.length : Int)).toNat else min k.toNat xs.length) xs) = _
  rw [if_neg (by omega)]
  by_cases hk : k.toNat ≤ xs.length
  · rw [Nat.min_eq_left hk, List.take_of_length_le (by rw [List.length_drop]; omega)]
  · rw [Nat.min_eq_right (by omega), List.drop_of_length_le (by omega), List.drop_of_length_le (by omega), List.take_nil]
theorem cut_takeV {xs : List V} {k : Int} (h : 0 ≤ k) : cutV xs none (some k) = xs.take k.toNat := by
  show List.take ((if k < 0 then (k + (xs.length : Int)).toNat else min k.toNat xs.length) - 0) (List.drop 0 xs) = _
  rw [if_neg (by omega), List.drop_zero, Nat.sub_zero]
  by_cases hk : k.toNat ≤ xs.length
  · rw [Nat.min_eq_left hk]
  · rw [Nat.min_eq_right (by omega), List.take_of_length_le (Nat.le_refl _), List.take_of_length_le (by omega)]
theorem cut_init {xs : List V} : cutV xs none (some (-1)) = xs.take (xs.length - 1) := by
  show List.take ((if (-1 : Int) < 0 then ((-1 : Int) + (xs.length : Int)).toNat else min (-1 : Int).toNat xs.length) - 0) (List.drop 0 xs) = _
  rw [if_pos (by decide), List.drop_zero, Nat.sub_zero]
  congr 1
  omega
/-! ### rows of ints, by a function -/
noncomputable def rowV (n : Nat) (r : Nat → Int) : List V := (List.range n).map fun t => V.int (r t)
theorem rowV_ext {n : Nat} {r s : Nat → Int} (h : ∀ t, t < n → r t = s t) : rowV n r = rowV n s := by
  unfold rowV
  refine List.map_congr_left fun t ht => ?_
  rw [h t (List.mem_range.mp ht)]
/-! ### an item by a place -/
theorem at_last {xs : List V} {v : V} {n : Nat} (h : xs.length = n + 1) (e : xs[n]? = some v) : atI xs (-1) = some v := by
  unfold atI ixN
  rw [if_neg (by decide), if_pos (by omega)]
  show xs[((-1 : Int) + xs.length).toNat]? = _
  rw [show ((-1 : Int) + xs.length).toNat = n by omega]; exact e
/-! ### a list of rows -/
structure GridAt (H : Hp) (a : Addr) (ps : List Addr) (n h : Nat) (g : Nat → Nat → Int) : Prop where
  out : H a = some (.lst (ps.map V.ref))
  len : ps.length = n
  row : ∀ (i : Nat) (p : Addr), ps[i]? = some p → H p = some (.lst (rowV h (g i)))
theorem GridAt.same {H H' : Hp} {a : Addr} {ps : List Addr} {n h : Nat} {g : Nat → Nat → Int} (G : GridAt H a ps n h g) (s : Same H H') : GridAt H' a ps n h g := ⟨s _ _ G.out, G.len, fun i p e => s _ _ (G.row i p e)⟩
theorem GridAt.ext {H : Hp} {a : Addr} {ps : List Addr} {n h : Nat} {g g' : Nat → Nat → Int} (G : GridAt H a ps n h g) (e : ∀ i t, i < n → t < h → g i t = g' i t) : GridAt H a ps n h g' :=
  ⟨G.out, G.len, fun i p q => by rw [G.row i p q]; rw [rowV_ext fun t ht => e i t (by have := (List.getElem?_eq_some_iff.mp q).1; have := G.len; omega) ht]⟩
theorem GridAt.some {H : Hp} {a : Addr} {ps : List Addr} {n h : Nat} {g : Nat → Nat → Int} (G : GridAt H a ps n h g) {i : Nat} (hi : i < n) : ∃ p, ps[i]? = .some p ∧ H p = .some (.lst (rowV h (g i))) := by
  have hl : i < ps.length := by rw [G.len]; exact hi
  exact ⟨ps[i], List.getElem?_eq_getElem hl, G.row i _ (List.getElem?_eq_getElem hl)⟩
/-! ### comprehensions, by what is walked -/
structure Wk (J : It) (n : Nat) (H1 : Hp) (X : Nat → V → Hp → Prop) : Prop where
  go : ∀ i H, Same H1 H → i < n → J.go i H
  stop : ∀ H, Same H1 H → J.stop n H
  yld : ∀ i H x H', Same H1 H → i < n → J.yld i H x H' → Same H H' ∧ X i x H'
theorem Wk.range {lo : Int} {n : Nat} {H1 : Hp} : Wk (Itr lo n) n H1 fun i x _ => x = .int (lo + i) :=
  ⟨fun i H _ h => h, fun H _ => Nat.le_refl _, fun i H x H' _ _ y => by obtain ⟨rfl, rfl⟩ := y; exact ⟨Same.refl _, rfl⟩⟩
theorem Wk.list {K : PySem.W.Frag} {a : Addr} {xs : List V} {H1 : Hp} (h : SqL K H1 a xs) : Wk (Itl K a) xs.length H1 fun i x _ => xs[i]? = some x :=
  ⟨fun i H s hi => ⟨xs, xs[i], s.seq h, by simp [hi]⟩, fun H s => ⟨xs, s.seq h, Nat.le_refl _⟩, fun i H x H' s _ y => by
    obtain ⟨e, y⟩ := y
    subst e
    exact ⟨Same.refl _, y xs (s.seq h)⟩⟩
theorem Wk.enum {K : PySem.W.Frag} {a : Addr} {xs : List V} {H1 : Hp} (h : SqL K H1 a xs) : Wk (Ite K a) xs.length H1 fun i x H => ∃ p y, x = .ref p ∧ H p = some (.tup [.int i, y]) ∧ xs[i]? = some y :=
  ⟨fun i H s hi => ⟨xs, xs[i], s.seq h, by simp [hi]⟩, fun H s => ⟨xs, s.seq h, Nat.le_refl _⟩, fun i H x H' s _ y => by
    obtain ⟨p, y, rfl, y1, y2, y3, y4⟩ := y
    exact ⟨y2, p, y, rfl, y3, y4 xs (s.seq h)⟩⟩
/-- new lists, one for each turn -/
structure FreshL (H1 H : Hp) (acc : Addr) (ps : List Addr) (n : Nat) (f : Nat → HO) : Prop where
  facc : H1 acc = none
  same : Same H1 H
  out : H acc = some (.lst (ps.map V.ref))
  len : ps.length = n
  nd : ps.Nodup
  nin : acc ∉ ps
  row : ∀ i p, ps[i]? = some p → H1 p = none ∧ H p = some (f i)
theorem FreshL.free {H1 H : Hp} {acc : Addr} {ps : List Addr} {n : Nat} {f : Nat → HO} (F : FreshL H1 H acc ps n f) {p : Addr} (h : p ∈ ps) : H1 p = none := by
  obtain ⟨i, hi⟩ := List.getElem?_of_mem h
  exact (F.row i p hi).1
theorem FreshL.some {H1 H : Hp} {acc : Addr} {ps : List Addr} {n : Nat} {f : Nat → HO} (F : FreshL H1 H acc ps n f) {i : Nat} (hi : i < n) : ∃ p, ps[i]? = .some p ∧ H p = .some (f i) := by
  have hl : i < ps.length := by rw [F.len]; exact hi
  exact ⟨ps[i], List.getElem?_eq_getElem hl, (F.row i _ (List.getElem?_eq_getElem hl)).2⟩
section
variable {K : PySem.W.Frag} {g : TG} {tt : TT} {te : TE} {σ0 : St} {H1 : Hp} {Q : VK} {J : It} {n : Nat} {X : Nat → V → Hp → Prop}
/-- each turn tells a new object -/
theorem comp_F (w : Wk J n H1 X) (hn : n < sizeLine) (f : Nat → HO) (Ps : Nat → St → Prop) (h0 : Ps 0 σ0)
    (turn : ∀ i x σ H (R : St → V → Hp → Prop) (S : St → Hp → Prop), i < n → Same H1 H → X i x H → Ps i σ → (∀ σ2 p H5, H p = none → Same H H5 → H5 p = some (f i) → Ps (i + 1) σ2 → R σ2 (.ref p) H5) → g x σ H fun σ2 H3 => tt σ2 H3 fun b H4 => br b (te σ2 H4 fun v H5 => R σ2 v H5) (S σ2 H4))
    (fin : ∀ acc ps H, FreshL H1 H acc ps n f → Q (.ref acc) H) : compW J g tt te σ0 H1 Q := by
  unfold compW
  intro acc H2 hf hs ha
  refine ⟨fun i m ys σ H => m = n - i ∧ i ≤ n ∧ ∃ ps : List Addr, ys = ps.map V.ref ∧ FreshL H1 H acc ps i f ∧ Ps i σ, ⟨n, by simp, Nat.zero_le _, [], rfl, ⟨hf, hs, ha, rfl, List.nodup_nil, by simp, fun i p e => by simp at e⟩, h0⟩, ?_⟩
  rintro i m ys σ H ⟨rfl, hi, ps, rfl, F, P⟩
  refine ⟨F.out, by rw [List.length_map, F.len]; omega, ?_⟩
  by_cases hlt : i < n
  · refine .inr ⟨w.go i H F.same hlt, fun x H' y => ?_⟩
    obtain ⟨s1, x1⟩ := w.yld i H x H' F.same hlt y
    refine turn i x σ H' (fun σ2 v H5 => cPut _ acc (ps.map V.ref) i (n - i) σ2 v H5) (fun σ2 H4 => cSkip _ (ps.map V.ref) i (n - i) σ2 H4) hlt (F.same.trans s1) x1 P ?_
    intro σ2 p H5 fp s5 hp P2
    have fp0 : H p = none := s1.free fp
    have s15 := s1.trans s5
    have na : p ≠ acc := Ne.symm (ne_of_none F.out fp0)
    unfold cPut
    refine ⟨s15 _ _ F.out, fun H6 c6 h6 => ⟨n - (i + 1), by omega, rfl, hlt, ps ++ [p], by rw [List.map_append]; rfl, ⟨F.facc, (F.same.trans s15).chg F.facc c6, by rw [List.map_append]; exact h6, by rw [List.length_append, F.len]; rfl, ?_, ?_, ?_⟩, P2⟩⟩
    · rw [List.nodup_append]
      refine ⟨F.nd, by simp, fun a ha b hb => ?_⟩
      have : b = p := by simpa using hb
      subst this
      obtain ⟨k, hk⟩ := List.getElem?_of_mem ha
      exact ne_of_none (F.row k a hk).2 fp0
    · intro hz
      rcases List.mem_append.mp hz with hz | hz
      · exact F.nin hz
      · exact na (by simpa using hz : acc = p).symm
    · intro k q e
      by_cases hk : k < ps.length
      · rw [List.getElem?_append_left hk] at e
        obtain ⟨z1, z2⟩ := F.row k q e
        exact ⟨z1, c6 _ _ (fun z => F.nin (z ▸ List.mem_of_getElem? e)) (s15 _ _ z2)⟩
      · rw [List.getElem?_append_right (by omega)] at e
        have hk2 : k - ps.length = 0 := by
          have := (List.getElem?_eq_some_iff.mp e).1
          simp at this; omega
        rw [hk2] at e
        have : p = q := by simpa using e
        subst this
        have : k = i := by have := F.len; omega
        subst this
        exact ⟨F.same.free fp0, c6 _ _ na hp⟩
  · have e : i = n := by omega
    subst e
    exact .inl ⟨w.stop H F.same, fin acc ps H F⟩
/-- each turn tells a value, or is left out -/
theorem comp_I (w : Wk J n H1 X) (hn : n < sizeLine) (f : Nat → V) (p : Nat → Bool) (Ps : Nat → St → Prop) (h0 : Ps 0 σ0)
    (turn : ∀ i x σ H (R : St → V → Hp → Prop) (S : St → Hp → Prop), i < n → Same H1 H → X i x H → Ps i σ → (p i = true → ∀ σ2 H5, Same H H5 → Ps (i + 1) σ2 → R σ2 (f i) H5) → (p i = false → ∀ σ2 H5, Same H H5 → Ps (i + 1) σ2 → S σ2 H5) →
      g x σ H fun σ2 H3 => tt σ2 H3 fun b H4 => br b (te σ2 H4 fun v H5 => R σ2 v H5) (S σ2 H4))
    (fin : ∀ acc H, H1 acc = none → Same H1 H → H acc = some (.lst (((List.range n).filter p).map f)) → Q (.ref acc) H) : compW J g tt te σ0 H1 Q := by
  unfold compW
  intro acc H2 hf hs ha
  refine ⟨fun i m ys σ H => m = n - i ∧ i ≤ n ∧ ys = ((List.range i).filter p).map f ∧ Same H1 H ∧ H acc = some (.lst ys) ∧ Ps i σ, ⟨n, by simp, Nat.zero_le _, rfl, hs, ha, h0⟩, ?_⟩
  rintro i m ys σ H ⟨rfl, hi, rfl, s, hy, P⟩
  have hlen : (((List.range i).filter p).map f).length ≤ i := by
    rw [List.length_map]
    have := List.length_filter_le p (List.range i)
    rwa [List.length_range] at this
  refine ⟨hy, by omega, ?_⟩
  by_cases hlt : i < n
  · refine .inr ⟨w.go i H s hlt, fun x H' y => ?_⟩
    obtain ⟨s1, x1⟩ := w.yld i H x H' s hlt y
    refine turn i x σ H' (fun σ2 v H5 => cPut _ acc _ i (n - i) σ2 v H5) (fun σ2 H4 => cSkip _ _ i (n - i) σ2 H4) hlt (s.trans s1) x1 P ?_ ?_
    · intro hp σ2 H5 s5 P2
      unfold cPut
      refine ⟨s5 _ _ (s1 _ _ hy), fun H6 c6 h6 => ⟨n - (i + 1), by omega, rfl, hlt, ?_, ((s.trans s1).trans s5).chg hf c6, h6, P2⟩⟩
      rw [List.range_succ, List.filter_append, List.map_append]
      congr 1
      simp [hp]
    · intro hp σ2 H5 s5 P2
      unfold cSkip
      refine ⟨n - (i + 1), by omega, rfl, hlt, ?_, (s.trans s1).trans s5, s5 _ _ (s1 _ _ hy), P2⟩
      rw [List.range_succ, List.filter_append, List.map_append]
      simp [hp]
  · have e : i = n := by omega
    subst e
    exact .inl ⟨w.stop H s, fin acc H hf s hy⟩
theorem filter_T (n : Nat) : (List.range n).filter (fun _ => true) = List.range n := by simp
end
/-! ### several objects may have changed -/
noncomputable def ChgS (ps : List Addr) (H H' : Hp) : Prop := ∀ b o, b ∉ ps → H b = some o → H' b = some o
theorem ChgS.refl (ps : List Addr) (H : Hp) : ChgS ps H H := fun _ _ _ e => e
theorem ChgS.same {ps : List Addr} {H H1 H2 : Hp} (x : ChgS ps H H1) (y : Same H1 H2) : ChgS ps H H2 := fun b o h e => y b o (x b o h e)
/-! ### == of lists of ints; of lists of these -/
end L2

set_option Elab.async false
set_option linter.all false
set_option maxRecDepth 100000
set_option maxHeartbeats 2000000
namespace L2
open PySem PySem.Spec PyProof.Rows
/-! ### range downwards -/
noncomputable def Itd (hi : Int) (n : Nat) : It := ⟨fun i _ => i < n, fun i H x H' => H' = H ∧ x = .int (hi - i), fun i _ => n ≤ i⟩
section
variable {X : Cx} {tg : Expr}
@[irreducible] noncomputable def rRangeD (i j : Int) (H : Hp) (R : It → Hp → Prop) : Prop := (-(2 ^ 62) ≤ i ∧ i < 2 ^ 62 ∧ -(2 ^ 62) ≤ j ∧ j < 2 ^ 62) ∧ R (Itd i (i - j).toNat) H
noncomputable def qiRngD (ta : TA) : TI := fun σ H R => ta σ H fun vs H1 => match vs with
  | [.int i, .int j, .int (-1)] => rRangeD i j H1 R
  | _ => False
end
section
variable {K : PySem.W.Frag} {g : TG} {tb : TS} {D : Ends} {σ : St} {H : Hp} {R : It → Hp → Prop}
end
/-! ### methods of lists without arguments; extend -/
section
variable {X : Cx} {K : PySem.W.Frag}
noncomputable def qBM0 (K : PySem.W.Frag) (r : Addr → List V → Hp → VK → Prop) (to : TE) : TE := fun σ H Q => to σ H fun x H1 => match x with
  | .ref p => rLstIs K p H1 (r p [] H1 Q)
  | _ => False
theorem peBM0 {o : Expr} {to : TE} {name : Str} {apos cpos : Pos} {id : String} {r : Addr → List V → Hp → VK → Prop} (slot : Slot "list" name id) (hty : typeOf (.builtin id) = pure (.type "method_descriptor")) (hm : MtA X id r) (ho : PE X o to)
    (hbase : attributeBase o name X.env (eval o X.env) = eval o X.env := by rfl) (hline : (apos.endLine == cpos.line) = true := by rfl) :
    PE X (.Call (.Attribute o name apos) [] [] cpos) (qBM0 X.K r to) := by
  intro pins s σ H Q I h
  refine wpAny_Call_method0_late hbase hline (thn (ho pins s σ H _ I h) fun v s1 ⟨x, H1, I1, r1, q1⟩ => ?_)
  dsimp only at q1
  split at q1
  · rename_i p
    unfold rLstIs at q1
    obtain ⟨hq, q1⟩ := q1
    obtain ⟨h1, h2⟩ := tyV_is (T := "list") I1 r1 (.inl ⟨rfl, hq⟩)
    cases r1
    exact ⟨"list", id, PySem.F.plainAttrs_list, slot, hty, h1, h2, Calls.callWith_builtin rfl (PySem.evalArgs_none (hm pins s1 σ H1 p [] [] Q I1 .nil q1))⟩
  · exact q1.elim
@[irreducible] noncomputable def rRevA (p : Addr) (H : Hp) (Q : VK) : Prop := ∃ xs, H p = some (.lst xs) ∧ ∀ H', Chg p H H' → H' p = some (.lst xs.reverse) → Q .non H'
@[irreducible] noncomputable def rExtA (p b : Addr) (H : Hp) (Q : VK) : Prop := ∃ xs zs, H p = some (.lst xs) ∧ H b = some (.lst zs) ∧ xs.length + zs.length ≤ sizeLine ∧ ∀ H', Chg p H H' → H' p = some (.lst (xs ++ zs)) → Q .non H'
noncomputable def rRevM : Addr → List V → Hp → VK → Prop := fun p vs H Q => match vs with
  | [] => rRevA p H Q
  | _ => False
noncomputable def rExtM : Addr → List V → Hp → VK → Prop := fun p vs H Q => match vs with
  | [.ref b] => rExtA p b H Q
  | _ => False
theorem mReverse : MtA X "list.reverse" rRevM := fun pins s σ H p xs us Q I r h => by
  unfold rRevM at h
  split at h
  · unfold rRevA at h
    obtain ⟨ys, h1, h2⟩ := h
    exact mt_reverse pins s σ H (.ref p) [] (.ref p) us Q I rfl r ⟨p, ys, rfl, rfl, h1, h2 _ Chg.upd upd_same⟩
  · exact h.elim
theorem mExtend : MtA X "list.extend" rExtM := fun pins s σ H p xs us Q I r h => by
  unfold rExtM at h
  split at h
  · unfold rExtA at h
    obtain ⟨ys, zs, h1, h2, h3, h4⟩ := h
    exact mt_extend pins s σ H (.ref p) _ (.ref p) us Q I rfl r ⟨p, _, ys, zs, rfl, rfl, h1, h2, h3, h4 _ Chg.upd upd_same⟩
  · exact h.elim
theorem peM_reverse {o : Expr} {to : TE} {apos cpos : Pos} (hK : X.K = K) (ho : PE X o to) (hbase : attributeBase o "reverse" X.env (eval o X.env) = eval o X.env := by rfl) (hline : (apos.endLine == cpos.line) = true := by rfl) : PE X (.Call (.Attribute o "reverse" apos) [] [] cpos) (qBM0 K rRevM to) := by
  subst hK
  exact peBM0 PySem.F.slot_list_reverse PySem.F.type_list_reverse mReverse ho hbase hline
theorem peM_extend {o e : Expr} {to : TE} {t : TA} {apos cpos : Pos} (hK : X.K = K) (ho : PE X o to) (ha : PA X [e] t) (hbase : attributeBase o "extend" X.env (eval o X.env) = eval o X.env := by rfl)
    (hfew : ((backTo cpos (starEach [e] X.env)).all (fun x => !x.1) && (backToKw cpos (keywordEach [] X.env)).all (fun x => x.1.isSome)
      && decide ([e].length + ([] : List Keyword).length + (if ([] : List Keyword).isEmpty then 0 else 1) < 30)) = true := by rfl)
    (hline : (apos.endLine == cpos.line) = true := by rfl) (hs : starEach [e] X.env = (false, eval e X.env) :: starEach [] X.env := by rfl) (hplain : (backTo cpos (starEach [] X.env)).any (·.1) = false := by rfl) : PE X (.Call (.Attribute o "extend" apos) [e] [] cpos) (qBM K rExtM to t) := by
  subst hK
  exact peBM PySem.F.slot_list_extend PySem.F.type_list_extend mExtend ho ha hbase hfew hline hs hplain
theorem rev_rd {p : Addr} {H : Hp} {Q : VK} {xs : List V} (h : H p = some (.lst xs)) (q : ∀ H', Chg p H H' → H' p = some (.lst xs.reverse) → Q .non H') : rRevA p H Q := by unfold rRevA; exact ⟨xs, h, q⟩
theorem ext_rd {p b : Addr} {H : Hp} {Q : VK} {xs zs : List V} (h : H p = some (.lst xs)) (h2 : H b = some (.lst zs)) (hz : xs.length + zs.length ≤ sizeLine) (q : ∀ H', Chg p H H' → H' p = some (.lst (xs ++ zs)) → Q .non H') : rExtA p b H Q := by unfold rExtA; exact ⟨xs, zs, h, h2, hz, q⟩
/-! ### xs[::-1] -/
theorem fm_congr {α β : Type} {f g : α → Option β} : ∀ {l : List α}, (∀ a ∈ l, f a = g a) → l.filterMap f = l.filterMap g
  | [], _ => rfl
  | a :: l, h => by
    rw [List.filterMap_cons, List.filterMap_cons, h a List.mem_cons_self, fm_congr fun b hb => h b (List.mem_cons_of_mem _ hb)]
theorem slicePick_rev (its : List Value) : slicePick its.toArray none none (some (-1)) = its.reverse.toArray := by
  unfold slicePick sliceBounds sliceRange
  simp only [Option.getD_some, show ¬ (-1 : Int) > 0 by decide, if_false, List.size_toArray]
  by_cases h0 : its.length = 0
  · have : its = [] := List.length_eq_zero_iff.mp h0
    subst this
    rfl
  · have hgt : ((its.length : Int) - 1) > -1 := by omega
    simp only [hgt, if_true]
    have e1 : (((its.length : Int) - 1 - -1 - -1 - 1) / (- -1)).toNat = its.length := by
      rw [show -(-1 : Int) = 1 by decide, Int.ediv_one]; omega
    rw [e1]
    congr 1
    rw [List.filterMap_map]
    have hk : ∀ k ∈ List.range its.length, ((fun x => its.toArray[x]?) ∘ fun k : Nat => ((its.length : Int) - 1 + -1 * (k : Int)).toNat) k = (some ∘ fun k => its.getD (its.length - 1 - k) .none) k := fun k hk => by
      have hk := List.mem_range.mp hk
      show its.toArray[((its.length : Int) - 1 + -1 * (k : Int)).toNat]? = some (its.getD (its.length - 1 - k) .none)
      rw [show ((its.length : Int) - 1 + -1 * (k : Int)).toNat = its.length - 1 - k by omega, List.getElem?_toArray, List.getD_eq_getElem?_getD, List.getElem?_eq_getElem (by omega)]
      rfl
    rw [fm_congr hk, List.filterMap_eq_map]
    apply List.ext_getElem?
    intro i
    by_cases hi : i < its.length
    · rw [List.getElem?_map, List.getElem?_range hi, List.getElem?_reverse hi, List.getElem?_eq_getElem (by omega)]
      show some (its.getD (its.length - 1 - i) .none) = _
      rw [List.getD_eq_getElem?_getD, List.getElem?_eq_getElem (by omega)]
      rfl
    · rw [List.getElem?_eq_none (by simp; omega), List.getElem?_eq_none (by simp; omega)]
@[irreducible] noncomputable def rRvA (K : PySem.W.Frag) (a : Addr) (H : Hp) (Q : VK) : Prop := ∃ xs, SqL K H a xs ∧ ∀ p H', H p = none → Same H H' → H' p = some (.lst xs.reverse) → Q (.ref p) H'
noncomputable def qRv (K : PySem.W.Frag) (te : TE) : TE := fun σ H Q => te σ H fun x H1 => match x with
  | .ref a => rRvA K a H1 Q
  | _ => False
theorem peRv {e : Expr} {te : TE} {p1 p2 p3 pos : Pos} (hK : X.K = K) (he : PE X e te) : PE X (.Subscript e (.Slice none none (some (.UnaryOp .USub (.Constant (.int 1) 0 p1) p3)) p2) pos) (qRv K te) := by
  subst hK
  intro pins s σ H Q I h
  refine Subscript_ (thn (he pins s σ H _ I h) fun v s1 ⟨x, H1, I1, r1, q1⟩ => ?_)
  dsimp only at q1
  split at q1
  case h_2 => exact q1.elim
  rename_i a
  unfold rRvA at q1
  obtain ⟨xs, hx, q⟩ := q1
  refine wpAny_Slice ?_
  rw [evalPart_none]
  refine wpAny_pure (wpAny_pure ?_)
  rw [evalPart_some]
  refine thn (pe_un (X := X) uNeg pe_int pins s1 σ H1 (fun y H2 => y = .int (-1) ∧ H2 = H1) I1 ⟨rfl, rfl⟩) fun u s2 ⟨y, H2, I2, r2, q2⟩ => ?_
  obtain ⟨rfl, rfl⟩ := q2
  obtain ⟨t, rfl⟩ := r2
  cases r1
  have I4 : Inv X pins σ H2 { s2 with heap := s2.heap.push { cls := .type "slice", data := .fields #[.none, .none, .int (-1) t] } } := I2.kept (t' := s2.toks) fun b ob q => Heap.get?_push_of_some _ q
  obtain ⟨its, r, ht, hz⟩ := I4.list hx
  have hlen := r.length
  refine tail_any (ops := [.ref a, .ref s2.heap.objs.size]) ht.isList.typeIs F.slot_list_getitem.lookup ?_ (by with_unfolding_all rfl)
  refine wpAny_getItem_list_slice ht.isList (Heap.IsSliceOf.new ..) .none .none (.int (-1) t) (by simp) ?_ (by rw [List.size_toArray] <;> omega)
  rw [slicePick_rev]
  have hf := I4.hok.fresh (Nat.le_refl _)
  refine ⟨.ref _, _, I4.laid (t' := s2.toks) (o := .lst xs.reverse) (fun b ob q => Heap.get?_push_of_some _ q) (Nat.le_refl _) ?_, rfl, q _ _ hf (Same.upd hf) upd_same⟩
  exact ⟨by rw [List.length_reverse]; exact hz, _, 0, r.reverse, Heap.get?_push_size _ rfl⟩
theorem rv_rd {a : Addr} {H : Hp} {Q : VK} {xs : List V} (h : SqL K H a xs) (q : ∀ p H', H p = none → Same H H' → H' p = some (.lst xs.reverse) → Q (.ref p) H') : rRvA K a H Q := by unfold rRvA; exact ⟨xs, h, q⟩
/-! ### min of a list of ints -/
theorem ptW {e : Expr} {t : TT} (h : PW X e t) : PT X e t := h.pt
end
end L2

set_option Elab.async false
set_option linter.all false
set_option maxRecDepth 100000
set_option maxHeartbeats 2000000
namespace L2
open PySem PySem.Spec PyProof.Rows
/-! ### an exception in flight, with its own dict: what notes a frame leaves it as it is but for its entry -/
section
variable {M : Model} {A : Around} {E : Value → Shared → Prop} {s : Shared} {B : Heap} {env : Env} {outer : List Env} {L e : Addr} {cls : Value} {dx : Option Addr} {Q : Unit → Shared → Prop}
end
/-! ### how an exception lies behind a call -/
section
variable {X : Cx} {pins : List (Addr × Obj)} {σ : St} {H : Hp} {s s' : Shared}
end
/-! ### raise C(..), C a class without __init__ -/
section
variable {X : Cx} {x : Str} {C : Addr} {bm : List Value} {B newId initId : String} {np cpos pos : Pos} {e₀ : Expr} {rest : List Expr} {t : TA} {E : XK}
end
/-! ### a def that may raise -/
section
variable {P : Program} {w : World} {K : PySem.W.Frag} {mg : Str → Option Value} {base : Heap}
end
end L2

set_option Elab.async false
set_option linter.all false
set_option maxRecDepth 100000
set_option maxHeartbeats 4000000
namespace L2
open PySem PySem.Spec PyProof.Rows
/-! ### isinstance of a caught exception -/
/-- a caught exception -/
noncomputable def ExcIs (e : Addr) (cls : Value) (dx : Option Addr) (h : Heap) : Prop := ∃ (oe : Obj) (vs : Array Value), h.get? e = some oe ∧ oe.cls = cls ∧ oe.dict = dx ∧ oe.data = .fields vs
section
open PySem.W PySem.Calls
end
/-! ### isinstance, of anything and of a caught exception -/
noncomputable abbrev excO (ea : Addr) (cls : Value) (dx : Option Addr) : HO := .ext (ExcIs ea cls dx)
section
variable {X : Cx} {K : PySem.W.Frag} {H : Hp} {Q : VK}
end
/-! ### try: f(..) except C as n: y = n -/
section
variable {X : Cx} {pins : List (Addr × Obj)} {σ : St} {H : Hp} {s : Shared}
/-! the exception is caught: it is tracked from here on -/
theorem ObjOk.ex {P : Program} {w : World} {H : Hp} {h : Heap} {a : Addr} {o : HO} (x : ObjOk P w H h a o) : ∃ u, h.get? a = some u := by
  cases o with
  | lst xs => obtain ⟨_, _, _, _, e⟩ := x; exact ⟨_, e⟩
  | tup xs => obtain ⟨_, _, _, ob, e, _⟩ := x; exact ⟨ob, e⟩
  | dK kvs => obtain ⟨_, _, _, _, ob, _, _, e, _⟩ := x; exact ⟨ob, e⟩
  | dT kvs => obtain ⟨_, _, _, _, ob, _, _, e, _⟩ := x; exact ⟨ob, e⟩
  | set S n => obtain ⟨ob, _, _, _, e, _⟩ := x; exact ⟨ob, e⟩
  | ins C dx fs => obtain ⟨_, _, _, e, _⟩ := x; exact ⟨_, e⟩
  | own y => exact x
  | xd fs => obtain ⟨_, ⟨ob, _, _, e, _⟩, _⟩ := x; exact ⟨ob, e⟩
  | rng lo hi => obtain ⟨_, _, _, e⟩ := x; exact ⟨_, e⟩
  | frz ob u => obtain ⟨e, _⟩ := x; exact ⟨_, e⟩
  | tbl ps => exact ⟨_, (show h.get? a = some _ from x)⟩
  | met f y => exact ⟨_, (show h.get? a = some _ from x)⟩
  | ext φ => obtain ⟨_, e, _⟩ := x; exact e
end
end L2

set_option Elab.async false
set_option linter.all false
set_option maxRecDepth 100000
set_option maxHeartbeats 4000000
namespace L2
open PySem PySem.Spec PyProof.Rows
/-! ### what the written part says of the classes -/
section
open PySem.W
end
/-! ### list.index of flat things -/
section
variable {X : Cx} {K : PySem.W.Frag}
end
/-! ### the same words, closed: a row of literals alone would be run while its term is read -/
section
variable {X : Cx} {st : Stmt} {rest : List Stmt} {t u : TS} {e : Expr} {es : List Expr} {te : TE} {ta : TA}
end
end L2

set_option Elab.async false
set_option linter.all false
set_option maxRecDepth 100000
set_option maxHeartbeats 1000000
namespace L2
open PySem PySem.Spec PyProof.Rows
/-! ### sorted(e, reverse = True), of ints -/
section
variable {X : Cx} {K : PySem.W.Frag}
end
end L2

set_option Elab.async false
set_option linter.all false
set_option maxRecDepth 100000
set_option maxHeartbeats 2000000
namespace L2
open PySem PySem.Spec PyProof.Rows
/-! ### zip over two lists -/
section
variable {X : Cx} {K : PySem.W.Frag}
end
section
variable {K : PySem.W.Frag} {g : TG} {tb : TS} {D : Ends} {σ : St} {H : Hp} {R : It → Hp → Prop}
end
end L2

set_option Elab.async false
set_option linter.all false
set_option maxRecDepth 100000
set_option maxHeartbeats 2000000
namespace L2
open PySem PySem.Spec PyProof.Rows
section
variable {X : Cx} {K : PySem.W.Frag}
/-! ### list(range(n)) -/
end
/-! ### comprehensions of things with new objects behind them -/
section
variable {J : It} {n : Nat} {H1 : Hp} {X : Nat → V → Hp → Prop} {g : TG} {tt : TT} {te : TE} {σ0 : St} {Q : VK}
theorem comp_A (w : Wk J n H1 X) (hn : n < sizeLine) (Pv : Addr → Nat → List V → St → Hp → Prop) (h0 : ∀ acc H, H1 acc = none → Same H1 H → H acc = some (.lst []) → Pv acc 0 [] σ0 H)
    (hP : ∀ acc i ys σ H H', Same H H' → Pv acc i ys σ H → Pv acc i ys σ H')
    (turn : ∀ acc i x ys σ H (R : St → V → Hp → Prop) (S : St → Hp → Prop), i < n → H1 acc = none → Same H1 H → H acc = some (.lst ys) → X i x H → Pv acc i ys σ H →
      (∀ σ2 v H5, Same H H5 → (∀ H6, Chg acc H5 H6 → Pv acc (i + 1) (ys ++ [v]) σ2 H6) → R σ2 v H5) → (∀ σ2 H5, Same H H5 → Pv acc (i + 1) ys σ2 H5 → S σ2 H5) →
      g x σ H fun σ2 H3 => tt σ2 H3 fun b H4 => br b (te σ2 H4 fun v H5 => R σ2 v H5) (S σ2 H4))
    (fin : ∀ acc ys σ H, H1 acc = none → Same H1 H → H acc = some (.lst ys) → Pv acc n ys σ H → Q (.ref acc) H) : compW J g tt te σ0 H1 Q := by
  unfold compW
  intro acc H2 hf hs ha
  refine ⟨fun i m ys σ H => m = n - i ∧ i ≤ n ∧ ys.length ≤ i ∧ Same H1 H ∧ H acc = some (.lst ys) ∧ Pv acc i ys σ H, ⟨n, by simp, Nat.zero_le _, Nat.le_refl _, hs, ha, h0 acc H2 hf hs ha⟩, ?_⟩
  rintro i m ys σ H ⟨rfl, hi, hl, s, hy, P⟩
  refine ⟨hy, by omega, ?_⟩
  by_cases hlt : i < n
  · refine .inr ⟨w.go i H s hlt, fun x H' y => ?_⟩
    obtain ⟨s1, x1⟩ := w.yld i H x H' s hlt y
    refine turn acc i x ys σ H' (fun σ2 v H5 => cPut _ acc ys i (n - i) σ2 v H5) (fun σ2 H4 => cSkip _ ys i (n - i) σ2 H4) hlt hf (s.trans s1) (s1 _ _ hy) x1 (hP _ _ _ _ _ _ s1 P) ?_ ?_
    · intro σ2 v H5 s5 q
      have s15 := s1.trans s5
      unfold cPut
      refine ⟨s15 _ _ hy, fun H6 c6 h6 => ⟨n - (i + 1), by omega, rfl, hlt, by rw [List.length_append]; simp; omega, (s.trans s15).chg hf c6, h6, q H6 c6⟩⟩
    · intro σ2 H5 s5 q
      have s15 := s1.trans s5
      unfold cSkip
      exact ⟨n - (i + 1), by omega, rfl, hlt, by omega, s.trans s15, s15 _ _ hy, q⟩
  · have e : i = n := by omega
    subst e
    exact .inl ⟨w.stop H s, fin acc ys σ H hf s hy P⟩
end
end L2

set_option Elab.async false
set_option linter.all false
set_option maxRecDepth 100000
set_option maxHeartbeats 2000000
/-! ### zip over three lists: iterators at n, n + 1, n + 2, what is walked at n + 3, what is told at n + 4, the zip at n + 5 -/
namespace PySem
open Sem (wp)
namespace F
end F
section
variable {prog : Program} {w : World} {A : Around} {E : Value → Shared → Prop} {s : Shared}
end
section
variable {prog : Program} {w : World} {A : Around} {E : Value → Shared → Prop} {s : Shared}
end
end PySem

set_option Elab.async false
set_option linter.all false
set_option maxRecDepth 100000
set_option maxHeartbeats 2000000
namespace L2
open PySem PySem.Spec PyProof.Rows
/-! ### zip over three lists of one length -/
section
variable {X : Cx} {K : PySem.W.Frag}
end
section
variable {K : PySem.W.Frag} {H : Hp} {R : It → Hp → Prop}
end
end L2

set_option Elab.async false
set_option linter.all false
set_option maxRecDepth 100000
set_option maxHeartbeats 2000000
namespace L2
open PySem PySem.Spec PyProof.Rows
/-! ### xs.pop() -/
section
variable {X : Cx} {K : PySem.W.Frag}
end
end L2

set_option Elab.async false
set_option linter.all false
set_option maxRecDepth 100000
set_option maxHeartbeats 2000000
namespace L2
open PySem PySem.Spec PyProof.Rows
/-! ### sorted(e), of ints -/
section
variable {X : Cx} {K : PySem.W.Frag}
end
end L2

set_option Elab.async false
set_option linter.all false
set_option maxRecDepth 100000
set_option maxHeartbeats 2000000
namespace L2
open PySem PySem.Spec PyProof.Rows
/-! ### tuple(e) of a list; tuples walked in a comprehension -/
section
variable {X : Cx} {K : PySem.W.Frag}
@[irreducible] noncomputable def rTupA (K : PySem.W.Frag) (p : Addr) (H : Hp) (Q : VK) : Prop := ∃ ys, SqL K H p ys ∧ ∀ l H', H l = none → Same H H' → H' l = some (.tup ys) → Q (.ref l) H'
noncomputable def rTupM (K : PySem.W.Frag) : List V → Hp → VK → Prop := fun xs H Q => match xs with
  | [.ref p] => rTupA K p H Q
  | _ => False
theorem cTupK (hK : X.K = K) : CallR X (.type "tuple") (rTupM K) := fun pins s σ H xs us Q I r h => by
  subst hK
  unfold rTupM at h
  split at h
  · unfold rTupA at h
    obtain ⟨ys, h1, h2⟩ := h
    exact call_tuple_of pins s σ H _ us Q I r ⟨_, ys, rfl, .inl ⟨h1, fun l hl => h2 l _ hl (Same.upd hl) upd_same⟩⟩
  · exact h.elim
theorem tupL_rd {p : Addr} {H : Hp} {Q : VK} {ys : List V} (h : SqL K H p ys) (q : ∀ l H', H l = none → Same H H' → H' l = some (.tup ys) → Q (.ref l) H') : rTupA K p H Q := by unfold rTupA; exact ⟨ys, h, q⟩
end
theorem Same.seqT {K : PySem.W.Frag} {H H' : Hp} {a : Addr} {xs : List V} (e : Same H H') (h : H a = some (.tup xs)) : SqT K H' a xs := SqT.of (e _ _ h)
theorem Wk.tup {K : PySem.W.Frag} {a : Addr} {xs : List V} {H1 : Hp} (h : H1 a = some (.tup xs)) : Wk (Itt K a) xs.length H1 fun i x _ => xs[i]? = some x :=
  ⟨fun i H s hi => ⟨xs, xs[i], Same.seqT s h, by simp [hi]⟩, fun H s => ⟨xs, Same.seqT s h, Nat.le_refl _⟩, fun i H x H' s _ y => by
    obtain ⟨e, y⟩ := y
    subst e
    exact ⟨Same.refl _, y xs (Same.seqT s h)⟩⟩
end L2

set_option Elab.async false
set_option linter.all false
set_option maxRecDepth 100000
set_option maxHeartbeats 4000000
namespace L2
open PySem PySem.Spec PyProof.Rows
/-! ### isinstance(x, (C, D)) -/
section
variable {X : Cx} {K : PySem.W.Frag} {H : Hp} {Q : VK}
theorem kitx_ty {pins : List (Addr × Obj)} {σ : St} {s : Shared} {x : V} {u t : Value} (I : Inv X pins σ H s) (rx : RelV x u) (ty : TyOf X.K H x t) : ∃ P : Heap → Prop, PySem.W.KitX X.K u t P ∧ P s.heap ∧ u ≠ .builtin "__main__.__loader__#opaque" := by
  cases ty with
  | non => cases (show u = Value.none from rx); exact ⟨_, PySem.W.kitx_none, True.intro, fun z => nomatch z⟩
  | bl y => cases (show u = Value.bool y from rx); exact ⟨_, PySem.W.kitx_bool, True.intro, fun z => nomatch z⟩
  | int i => obtain ⟨t, q⟩ := (show ∃ t, u = Value.int i t from rx); cases q; exact ⟨_, PySem.W.kitx_int, True.intro, fun z => nomatch z⟩
  | str y => obtain ⟨t, q⟩ := (show ∃ t, u = Value.str y t from rx); cases q; exact ⟨_, PySem.W.kitx_str, True.intro, fun z => nomatch z⟩
  | flt y => obtain ⟨t, q⟩ := (show ∃ t, u = Value.float y t from rx); cases q; exact ⟨_, PySem.W.kitx_float, True.intro, fun z => nomatch z⟩
  | @lst a xs ea =>
    cases (show u = Value.ref a from rx)
    obtain ⟨_, _, n, _, h1⟩ := (show ObjOk X.prog X.w H s.heap a (.lst xs) from I.hok a _ ea)
    exact ⟨_, PySem.W.kitx_list, ⟨_, h1, rfl⟩, fun z => nomatch z⟩
  | @frz a ob xs ea =>
    cases (show u = Value.ref a from rx)
    obtain ⟨_, _, _, n, _, h1⟩ := (show ObjOk X.prog X.w H s.heap a (.frz ob (.lst xs)) from I.hok a _ ea)
    exact ⟨_, PySem.W.kitx_list, ⟨_, h1, rfl⟩, fun z => nomatch z⟩
  | @tup a xs ea =>
    cases (show u = Value.ref a from rx)
    obtain ⟨_, _, _, p⟩ := (show ObjOk X.prog X.w H s.heap a (.tup xs) from I.hok a _ ea)
    obtain ⟨o, h1, h2, _⟩ := p
    exact ⟨_, PySem.W.kitx_tuple, ⟨o, h1, h2⟩, fun z => nomatch z⟩
  | @dK a kvs ea =>
    cases (show u = Value.ref a from rx)
    obtain ⟨_, _, vs, _, p⟩ := (show ObjOk X.prog X.w H s.heap a (.dK kvs) from I.hok a _ ea)
    obtain ⟨o, es, ep, h1, h2, _⟩ := p
    exact ⟨_, PySem.W.kitx_dict, ⟨o, h1, h2.1⟩, fun z => nomatch z⟩
  | @dT a kvs ea =>
    cases (show u = Value.ref a from rx)
    obtain ⟨_, _, xs, _, o, es, ep, h1, h2, _⟩ := (show ObjOk X.prog X.w H s.heap a (.dT kvs) from I.hok a _ ea)
    exact ⟨_, PySem.W.kitx_dict, ⟨o, h1, h2.1⟩, fun z => nomatch z⟩
  | @ins a C dx fs ea cl ha hn htk hm =>
    cases (show u = Value.ref a from rx)
    obtain ⟨mA, O, _⟩ := ins_get I.hok ea
    obtain ⟨od, J, _⟩ := O.look
    exact ⟨_, PySem.W.kitx_own (cl.get _) cl.hd ha hn htk hm, J, fun z => nomatch z⟩
@[irreducible] noncomputable def rIsiT (K : PySem.W.Frag) (x c : V) (H : Hp) (Q : VK) : Prop := ∃ (p : Addr) (ns : List String) (t : Value) (b : Bool), c = .ref p ∧ H p = some (.tup (ns.map V.ty)) ∧ TyOf K H x t ∧ PySem.W.kitAny K t (ns.map Value.type) = some b ∧ Q (.bl b) H
noncomputable def rIsiTM (K : PySem.W.Frag) : List V → Hp → VK → Prop := fun xs H Q => match xs with
  | [x, c] => rIsiT K x c H Q
  | _ => False
theorem vals_ty : ∀ {ns : List String} {us : List Value}, Vals (ns.map V.ty) us → us = ns.map Value.type
  | [], _, .nil => rfl
  | n :: ns, _, .cons r t => by rw [show _ = Value.type n from r, vals_ty t]; rfl
theorem cIsiT (hK : X.K = K) : CallR X (.builtin "isinstance") (rIsiTM K) := by
  subst hK
  intro pins s σ H xs us Q I r h
  unfold rIsiTM at h
  split at h
  · unfold rIsiT at h
    obtain ⟨p, ns, t, b, rfl, h1, h2, h3, h4⟩ := h
    obtain ⟨u, w, rfl, r1, r2⟩ := vals2 r
    cases r2
    obtain ⟨P, z1, z2, z3⟩ := kitx_ty I r1 h2
    obtain ⟨_, its, r3, o, e1, e2, n, e3⟩ := (show ObjOk X.prog X.w H s.heap p (.tup (ns.map V.ty)) from I.hok p _ h1)
    have ei := vals_ty r3
    subst ei
    obtain ⟨oc, od, odt, osl⟩ := o
    cases e2
    cases e3
    exact PySem.W.kia_tup z1 I.kIn z2 e1 h3 z3 fun tk => ⟨.bl b, H, I.tok _, rfl, h4⟩
  · exact h.elim
theorem isiTI_rd {p : Addr} {i : Int} {ns : List String} {b : Bool} (h : H p = some (.tup (ns.map V.ty))) (q : Q (.bl b) H) (e : PySem.W.kitAny K (.type "int") (ns.map Value.type) = some b := by rfl) : rIsiT K (.int i) (.ref p) H Q := by
  unfold rIsiT; exact ⟨p, ns, _, b, rfl, h, .int i, e, q⟩
theorem isiTS_rd {p : Addr} {x : Str} {ns : List String} {b : Bool} (h : H p = some (.tup (ns.map V.ty))) (q : Q (.bl b) H) (e : PySem.W.kitAny K (.type "str") (ns.map Value.type) = some b := by rfl) : rIsiT K (.str x) (.ref p) H Q := by
  unfold rIsiT; exact ⟨p, ns, _, b, rfl, h, .str x, e, q⟩
theorem isiTN_rd {p : Addr} {ns : List String} {b : Bool} (h : H p = some (.tup (ns.map V.ty))) (q : Q (.bl b) H) (e : PySem.W.kitAny K (.type "NoneType") (ns.map Value.type) = some b := by rfl) : rIsiT K .non (.ref p) H Q := by
  unfold rIsiT; exact ⟨p, ns, _, b, rfl, h, .non, e, q⟩
theorem isiTB_rd {p : Addr} {x : Bool} {ns : List String} {b : Bool} (h : H p = some (.tup (ns.map V.ty))) (q : Q (.bl b) H) (e : PySem.W.kitAny K (.type "bool") (ns.map Value.type) = some b := by rfl) : rIsiT K (.bl x) (.ref p) H Q := by
  unfold rIsiT; exact ⟨p, ns, _, b, rfl, h, .bl x, e, q⟩
theorem isiTL_rd {p a : Addr} {xs : List V} {ns : List String} {b : Bool} (h : H p = some (.tup (ns.map V.ty))) (ha : H a = some (.lst xs)) (q : Q (.bl b) H) (e : PySem.W.kitAny K (.type "list") (ns.map Value.type) = some b := by rfl) : rIsiT K (.ref a) (.ref p) H Q := by
  unfold rIsiT; exact ⟨p, ns, _, b, rfl, h, .lst ha, e, q⟩
theorem isiTT_rd {p a : Addr} {xs : List V} {ns : List String} {b : Bool} (h : H p = some (.tup (ns.map V.ty))) (ha : H a = some (.tup xs)) (q : Q (.bl b) H) (e : PySem.W.kitAny K (.type "tuple") (ns.map Value.type) = some b := by rfl) : rIsiT K (.ref a) (.ref p) H Q := by
  unfold rIsiT; exact ⟨p, ns, _, b, rfl, h, .tup ha, e, q⟩
end
/-! ### list.count of a text among things of all kinds -/
section
variable {X : Cx} {K : PySem.W.Frag}
noncomputable def isT (k : Str) : V → Bool
  | .str z => z == k
  | _ => false
noncomputable def isTU (k : Str) : Value → Bool
  | .str z _ => z == k
  | _ => false
theorem isTU_of {k : Str} {x : V} {u : Value} (r : RelV x u) : isTU k u = isT k x := by
  cases x with
  | non => cases (show u = Value.none from r); rfl
  | bl b => cases (show u = Value.bool b from r); rfl
  | int i => obtain ⟨t, e⟩ := (show ∃ t, u = Value.int i t from r); cases e; rfl
  | str x => obtain ⟨t, e⟩ := (show ∃ t, u = Value.str x t from r); cases e; rfl
  | byt b => obtain ⟨t, e⟩ := (show ∃ t, u = Value.bytes b t from r); cases e; rfl
  | flt b => obtain ⟨t, e⟩ := (show ∃ t, u = Value.float b t from r); cases e; rfl
  | ref a => cases (show u = Value.ref a from r); rfl
  | ty n => cases (show u = Value.type n from r); rfl
theorem count_isT {k : Str} : ∀ {xs : List V} {us : List Value}, Vals xs us → us.countP (isTU k) = xs.countP (isT k)
  | _, _, .nil => rfl
  | y :: xs, u :: us, .cons r t => by rw [List.countP_cons, List.countP_cons, isTU_of r, count_isT t]
/-- a thing that a text can be held against -/
noncomputable def Plain (H : Hp) (x : V) : Prop := flatV x = true ∨ ∃ a, x = .ref a ∧ ((∃ ys, H a = some (.lst ys)) ∨ ∃ ys, H a = some (.tup ys))
theorem eqT_at {pins : List (Addr × Obj)} {σ : St} {H : Hp} {s : Shared} {A : Around} {k : Str} {tk : Tok} {x : V} {u : Value} (I : Inv X pins σ H s) (hu : A.units < cLine) (r : RelV x u) (f : Plain H x) : SeqAt.EqAt A s u (.str k tk) (isTU k u) := by
  rw [isTU_of r]
  rcases f with f | ⟨a, rfl, f⟩
  · cases x with
    | non => cases (show u = Value.none from r); exact SeqAt.EqAt.none_str _ _
    | bl b => cases (show u = Value.bool b from r); exact SeqAt.EqAt.bool_str _ _ _
    | int i => obtain ⟨t, e⟩ := (show ∃ t, u = Value.int i t from r); cases e; exact SeqAt.EqAt.int_str _ _ _ _
    | str x => obtain ⟨t, e⟩ := (show ∃ t, u = Value.str x t from r); cases e; exact SeqAt.EqAt.str_str _ _ _ _
    | _ => exact absurd (show false = true from f) Bool.false_ne_true
  · cases (show u = Value.ref a from r)
    rcases f with ⟨ys, e⟩ | ⟨ys, e⟩
    · obtain ⟨_, its, n, _, e⟩ := (show ObjOk X.prog X.w H s.heap a (.lst ys) from I.hok a _ e)
      exact SeqAt.EqAt.list_str _ _ ⟨_, e, rfl, n, rfl⟩ hu
    · obtain ⟨_, its, _, o, e, c⟩ := (show ObjOk X.prog X.w H s.heap a (.tup ys) from I.hok a _ e)
      exact SeqAt.EqAt.tuple_str _ _ ⟨o, e, c⟩ hu
@[irreducible] noncomputable def rCntT (p : Addr) (k : Str) (H : Hp) (Q : VK) : Prop := ∃ xs, H p = some (.lst xs) ∧ (∀ x ∈ xs, Plain H x) ∧ Q (.int (xs.countP (isT k) : Nat)) H
noncomputable def rCntTM : Addr → List V → Hp → VK → Prop := fun p vs H Q => match vs with
  | [.str k] => rCntT p k H Q
  | _ => False
theorem vals_mem : ∀ {xs : List V} {us : List Value}, Vals xs us → ∀ u ∈ us, ∃ x ∈ xs, RelV x u
  | _, _, .nil => fun u hu => by cases hu
  | y :: xs, u :: us, .cons r t => fun u' hu => by
    rcases List.mem_cons.mp hu with rfl | hu
    · exact ⟨y, List.mem_cons_self, r⟩
    · obtain ⟨x, hx, rx⟩ := vals_mem t u' hu
      exact ⟨x, List.mem_cons_of_mem _ hx, rx⟩
theorem mCountT (hu : X.A.units + 40 < cLine) : MtA X "list.count" rCntTM := fun pins s σ H p xs us Q I r h => by
  unfold rCntTM at h
  split at h
  · rename_i k
    unfold rCntT at h
    obtain ⟨ys, h1, h2, h3⟩ := h
    obtain ⟨u, rfl, ru⟩ := r.one
    obtain ⟨tk, rfl⟩ := (show ∃ t, u = Value.str k t from ru)
    obtain ⟨z, its, n, r', hl, e⟩ := I.lstM h1
    refine call_meets F.slot_list_count ⟨_, e, rfl⟩ F.entry_list_count (F.args_list_count_2 _ _) (SeqAt.list_countAt p its.toArray n none #[] (.str k tk) (isTU k)) ⟨e, fun y hy => ?_, ?_⟩
    · obtain ⟨x, hx, rx⟩ := vals_mem r' y (by simpa using hy)
      exact eqT_at I (by rw [in1_units]; omega) rx (h2 x hx)
    · have ec : its.toArray.toList.countP (isTU k) = ys.countP (isT k) := count_isT r'
      exact ⟨.int _, H, I.tok _, ⟨_, by rw [ec]⟩, h3⟩
  · exact h.elim
theorem cntT_rd {p : Addr} {k : Str} {H : Hp} {Q : VK} {xs : List V} (h : H p = some (.lst xs)) (h1 : ∀ x ∈ xs, Plain H x) (q : Q (.int (xs.countP (isT k) : Nat)) H) : rCntT p k H Q := by unfold rCntT; exact ⟨xs, h, h1, q⟩
theorem peM_countT {o e : Expr} {to : TE} {t : TA} {apos cpos : Pos} (hK : X.K = K) (hu : X.A.units + 40 < cLine) (ho : PE X o to) (ha : PA X [e] t) (hbase : attributeBase o "count" X.env (eval o X.env) = eval o X.env := by rfl)
    (hfew : ((backTo cpos (starEach [e] X.env)).all (fun x => !x.1) && (backToKw cpos (keywordEach [] X.env)).all (fun x => x.1.isSome)
      && decide ([e].length + ([] : List Keyword).length + (if ([] : List Keyword).isEmpty then 0 else 1) < 30)) = true := by rfl)
    (hline : (apos.endLine == cpos.line) = true := by rfl) (hs : starEach [e] X.env = (false, eval e X.env) :: starEach [] X.env := by rfl) (hplain : (backTo cpos (starEach [] X.env)).any (·.1) = false := by rfl) : PE X (.Call (.Attribute o "count" apos) [e] [] cpos) (qBM K rCntTM to t) := by
  subst hK
  exact peBM PySem.F.slot_list_count PySem.F.type_list_count (mCountT hu) ho ha hbase hfew hline hs hplain
end
end L2

set_option Elab.async false
set_option linter.all false
set_option maxRecDepth 100000
set_option maxHeartbeats 4000000
namespace L2
open PySem PySem.Spec PyProof.Rows
/-! ### a class of exceptions with an __init__ of its own: it is made -/
section
variable {prog : Program} {w : World} {A : Around} {E : Value → Shared → Prop} {h : Heap} {g : Array GenState} {d : Drawn} {t : Nat} {os : OsState}
variable {nm q : Str} {C N : Addr} {bs bm bmB : List Value} {hdct : Bool} {sn : List Str} {sub : List Value} {ab : Bool} {col : Option Bool} {dd : Option Addr} {k0 k1 k2 k3 k5 : Option Value} {B newId initId : String} {K : PySem.W.Frag}
end
section
variable {prog : Program} {w : World} {A : Around} {E : Value → Shared → Prop} {s : Shared} {env : Env}
variable {nm q : Str} {C N : Addr} {bs bm bmB : List Value} {hdct : Bool} {sn : List Str} {sub : List Value} {ab : Bool} {col : Option Bool} {dd : Option Addr} {k0 k1 k2 k3 k5 : Option Value} {B newId initId : String} {K : PySem.W.Frag}
end
/-! ### its attribute is stored -/
section
open PySem.W
variable {prog : Program} {w : World} {A : Around} {E : Value → Shared → Prop} {s : Shared} {K : Frag}
end
end L2

set_option Elab.async false
set_option linter.all false
set_option maxRecDepth 100000
set_option maxHeartbeats 4000000
namespace L2
open PySem PySem.Spec PyProof.Rows
/-! ### an exception that is being made -/
section
variable {X : Cx} {K : PySem.W.Frag}
/-! ### it is raised -/
section
variable {pins : List (Addr × Obj)} {σ : St} {H : Hp} {s : Shared} {e : Addr} {φ : Heap → Prop}
end
end
end L2

set_option Elab.async false
set_option linter.all false
set_option maxRecDepth 100000
set_option maxHeartbeats 4000000
namespace L2
open PySem PySem.Spec PyProof.Rows
/-! ### a caught exception with a dict: its class, its attribute -/
section
open PySem.W PySem.Calls
end
section
variable {X : Cx} {K : PySem.W.Frag} {H : Hp} {Q : VK}
/-! e.f of a caught exception -/
end
end L2
namespace L2
open PySem PySem.Spec PyProof.Rows
/-! ### short words for a class with an __init__ -/
end L2

set_option Elab.async false
set_option linter.all false
set_option maxRecDepth 100000
set_option maxHeartbeats 2000000
namespace L2
open PySem PySem.Spec PyProof.Rows
/-! ### comprehensions whose target is seen by an inner one: it is a cell -/
noncomputable def OneCell (x0 : Str) (names : List (Str × NameKind)) : Prop := names.filter (fun y => y.2 == .cell) = [(x0, .cell)] ∧ names.lookup x0 = some .cell
theorem OneCell.only {x0 : Str} {names : List (Str × NameKind)} (h : OneCell x0 names) : ∀ y ∈ names, y.2 = .cell → y.1 = x0 := fun y hy hc => by
  have : y ∈ names.filter (fun y => y.2 == .cell) := List.mem_filter.mpr ⟨hy, by rw [hc]; rfl⟩
  rw [h.1] at this
  rw [List.mem_singleton.mp this]
section
variable {X : Cx} {pins : List (Addr × Obj)} {σ : St} {H : Hp} {s2 : Shared}
end
end L2

set_option Elab.async false
set_option linter.all false
set_option maxRecDepth 100000
set_option maxHeartbeats 1000000
namespace L2
open PySem PySem.Spec PyProof.Rows

/-! ### lists of pairs as tables -/
section
variable {κ : Type} [DecidableEq κ]
noncomputable def valV (kvs : List (κ × V)) (k : κ) : Option V := (kvs.find? fun kv => decide (kv.1 = k)).map (·.2)
/-- in its place, or at the end -/
noncomputable def putK (kvs : List (κ × V)) (k : κ) (v : V) : List (κ × V) :=
  if (kvs.any fun kv => decide (kv.1 = k)) = true then kvs.map (fun kv => if kv.1 = k then (kv.1, v) else kv) else kvs ++ [(k, v)]
theorem valV_pos {p : κ × V} {r : List (κ × V)} {k : κ} (e : p.1 = k) : valV (p :: r) k = some p.2 := by simp [valV, List.find?_cons, e]
theorem valV_neg {p : κ × V} {r : List (κ × V)} {k : κ} (e : ¬ p.1 = k) : valV (p :: r) k = valV r k := by simp [valV, List.find?_cons, e]
theorem valV_any (k : κ) : ∀ kvs : List (κ × V), (kvs.any fun kv => decide (kv.1 = k)) = (valV kvs k).isSome
  | [] => rfl
  | p :: r => by
    rw [List.any_cons]
    by_cases e : p.1 = k
    · simp only [valV_pos e, decide_eq_true e, Bool.true_or, Option.isSome_some]
    · rw [valV_neg e, decide_eq_false e, Bool.false_or]; exact valV_any k r
theorem length_putK (kvs : List (κ × V)) (k : κ) (v : V) : (putK kvs k v).length ≤ kvs.length + 1 := by
  unfold putK
  split
  · rw [List.length_map]; omega
  · rw [List.length_append, List.length_cons, List.length_nil]; omega
theorem RelO.isSome_eq {o : Option V} {u : Option Value} (r : RelO o u) : o.isSome = u.isSome := by
  cases o with
  | none => cases u with
    | none => rfl
    | some _ => exact (show False from r).elim
  | some _ => cases u with
    | none => exact (show False from r).elim
    | some _ => rfl
theorem RelO.getD {o : Option V} {u : Option Value} {d : V} {d' : Value} (r : RelO o u) (rd : RelV d d') : RelV (o.getD d) (u.getD d') := by
  cases o with
  | none => cases u with
    | none => exact rd
    | some _ => exact (show False from r).elim
  | some _ => cases u with
    | none => exact (show False from r).elim
    | some _ => exact r

/-- raw tables of the same keys -/
theorem KV.val {kvs : List (κ × V)} {vs : List (κ × Value)} (r : KV kvs vs) (k : κ) : RelO (valV kvs k) (valueAt vs k) := by
  unfold KV at r
  induction r with
  | nil => exact True.intro
  | @cons p q ps qs h t ih =>
    obtain ⟨h1, h2⟩ := h
    by_cases e : p.1 = k
    · have e' : q.1 = k := h1.symm.trans e
      have b : valueAt (q :: qs) k = some q.2 := by simp [valueAt, List.find?_cons, e']
      rw [valV_pos e, b]; exact h2
    · have e' : ¬ q.1 = k := fun z => e (h1.trans z)
      have b : valueAt (q :: qs) k = valueAt qs k := by simp [valueAt, List.find?_cons, e']
      rw [valV_neg e, b]; exact ih
theorem KV.any {kvs : List (κ × V)} {vs : List (κ × Value)} (r : KV kvs vs) (k : κ) : (kvs.any fun kv => decide (kv.1 = k)) = vs.any fun kv => decide (kv.1 = k) := by
  unfold KV at r
  induction r with
  | nil => rfl
  | cons h t ih => rw [List.any_cons, List.any_cons, ih, h.1]
theorem KV.repl {kvs : List (κ × V)} {vs : List (κ × Value)} (r : KV kvs vs) (k : κ) {y : V} {u : Value} (ry : RelV y u) :
    KV (kvs.map fun kv => if kv.1 = k then (kv.1, y) else kv) (vs.map fun kv => if kv.1 = k then (kv.1, u) else kv) := by
  unfold KV at r ⊢
  induction r with
  | nil => exact .nil
  | @cons p q ps qs h t ih =>
    rw [List.map_cons, List.map_cons]
    refine .cons ?_ ih
    obtain ⟨h1, h2⟩ := h
    by_cases e : p.1 = k
    · rw [if_pos e, if_pos (h1.symm.trans e)]; exact ⟨h1, ry⟩
    · rw [if_neg e, if_neg (fun z => e (h1.trans z))]; exact ⟨h1, h2⟩
theorem KV.put {kvs : List (κ × V)} {vs : List (κ × Value)} (r : KV kvs vs) (k : κ) {y : V} {u : Value} (ry : RelV y u) : KV (putK kvs k y) (stored vs k u) := by
  unfold putK stored
  rw [r.any k]
  by_cases e : (vs.any fun kv => decide (kv.1 = k)) = true
  · rw [if_pos e, if_pos e]; exact r.repl k ry
  · rw [if_neg e, if_neg e]; exact Paired.snoc r ⟨rfl, ry⟩
theorem KV.keys {kvs : List (κ × V)} {vs : List (κ × Value)} (r : KV kvs vs) : kvs.map (·.1) = vs.map (·.1) := by
  unfold KV at r
  induction r with
  | nil => rfl
  | cons h t ih => rw [List.map_cons, List.map_cons, ih, h.1]
theorem KV.length {kvs : List (κ × V)} {vs : List (κ × Value)} (r : KV kvs vs) : kvs.length = vs.length := Paired.length r
end


/-! ### a tracked dict, its keys ints and texts or tuples of these -/
theorem kV_is {P : Program} {w : World} {k : Key} {u : Value} (r : RelV (kV k) u) : (mixKind P w).is k u = true := by
  cases k with
  | inl i => obtain ⟨t, e⟩ := (show ∃ t, u = Value.int i t from r); subst e; exact mixKind_int P w i t
  | inr x => obtain ⟨t, e⟩ := (show ∃ t, u = Value.str x t from r); subst e; exact mixKind_str P w x t
theorem items_are {P : Program} {w : World} : ∀ {ks : List Key} {us : List Value}, Vals (ks.map kV) us → ItemsAre (mixKind P w) ks us
  | [], _, r => by rw [List.map_nil] at r; cases r; exact .nil
  | k :: ks, _, r => by
    rw [List.map_cons] at r
    cases r with
    | cons h t => exact .cons (kV_is h) (items_are t)

/-- raw entries of a dict with tuple keys -/
noncomputable abbrev KT (H : Hp) : List (List Key × V) → List (List Key × Addr × Value) → Prop := Paired fun p q => p.1 = q.1 ∧ H q.2.1 = some (.tup (p.1.map kV)) ∧ RelV p.2 q.2.2
theorem KT.val {H : Hp} {kvs : List (List Key × V)} {xs : List (List Key × Addr × Value)} (r : KT H kvs xs) (k : List Key) : RelO (valV kvs k) ((atKey xs k).map (·.2)) := by
  induction r with
  | nil => exact True.intro
  | @cons p q ps qs h t ih =>
    obtain ⟨h1, _, h2⟩ := h
    by_cases e : p.1 = k
    · have e' : q.1 = k := h1.symm.trans e
      have b : atKey (q :: qs) k = some q.2 := by simp [atKey, List.find?_cons, e']
      rw [valV_pos e, b]; exact h2
    · have e' : ¬ q.1 = k := fun z => e (h1.trans z)
      have b : atKey (q :: qs) k = atKey qs k := by simp [atKey, List.find?_cons, e']
      rw [valV_neg e, b]; exact ih
theorem KT.repl {H : Hp} {kvs : List (List Key × V)} {xs : List (List Key × Addr × Value)} (r : KT H kvs xs) (k : List Key) {y : V} {u : Value} (ry : RelV y u) :
    KT H (kvs.map fun kv => if kv.1 = k then (kv.1, y) else kv) (xs.map (putAt k u)) := by
  induction r with
  | nil => exact .nil
  | @cons p q ps qs h t ih =>
    rw [List.map_cons, List.map_cons]
    refine .cons ?_ ih
    obtain ⟨h1, h2, h3⟩ := h
    unfold putAt
    by_cases e : p.1 = k
    · rw [if_pos e, if_pos (h1.symm.trans e)]; exact ⟨h1, h2, ry⟩
    · rw [if_neg e, if_neg (fun z => e (h1.trans z))]; exact ⟨h1, h2, h3⟩
theorem KT.put {H : Hp} {kvs : List (List Key × V)} {xs : List (List Key × Addr × Value)} (r : KT H kvs xs) (k : List Key) {b : Addr} {y : V} {u : Value} (hb : H b = some (.tup (k.map kV))) (ry : RelV y u) :
    KT H (putK kvs k y) (storedH xs k b u) := by
  have e : (kvs.any fun kv => decide (kv.1 = k)) = (atKey xs k).isSome := by
    rw [valV_any, (r.val k).isSome_eq, Option.isSome_map]
  unfold putK storedH
  rw [e]
  by_cases q : (atKey xs k).isSome = true
  · rw [if_pos q, if_pos q]; exact r.repl k ry
  · rw [if_neg q, if_neg q]; exact Paired.snoc r ⟨rfl, hb, ry⟩
theorem KT.keeps {H H' : Hp} {kvs : List (List Key × V)} {xs : List (List Key × Addr × Value)} (r : KT H kvs xs) (ht : ∀ b ys, H b = some (.tup ys) → H' b = some (.tup ys)) : KT H' kvs xs :=
  Paired.mapP r fun _ _ z => ⟨z.1, ht _ _ z.2.1, z.2.2⟩

section
variable {P : Program} {w : World} {H : Hp} {h : Heap} {a : Addr}
theorem rd_of {u : HO} (ok : HOk P w H h) (e : Rd H a u) : ObjOk P w H h a u := e.ok ok
theorem dk_rd {kvs : List (Key × V)} (ok : HOk P w H h) (e : Rd H a (.dK kvs)) : kvs.length ≤ sizeLine ∧ (a == sysModules) = false ∧ ∃ vs, KV kvs vs ∧ h.DictOf (mixKind P w) a vs :=
  show ObjOk P w H h a (.dK kvs) from rd_of ok e
theorem dk_of {kvs : List (Key × V)} (ok : HOk P w H h) (e : H a = some (.dK kvs)) : kvs.length ≤ sizeLine ∧ (a == sysModules) = false ∧ ∃ vs, KV kvs vs ∧ h.DictOf (mixKind P w) a vs := dk_rd ok (.inl e)
/-- a tracked tuple of ints and texts is a key -/
theorem key_of {ks : List Key} (ok : HOk P w H h) (e : H a = some (.tup (ks.map kV))) : (tupleKind (mixKind P w)).is h ks a := by
  obtain ⟨_, its, r, o, h1, h2, n, h3⟩ := (show ObjOk P w H h a (.tup (ks.map kV)) from ok a _ e)
  exact ⟨o, its.toArray, n, h1, h2, h3, by simpa using items_are r⟩
theorem dt_rd {kvs : List (List Key × V)} (ok : HOk P w H h) (e : Rd H a (.dT kvs)) : kvs.length ≤ sizeLine ∧ (a == sysModules) = false ∧
    ∃ xs, KT H kvs xs ∧ h.DictOfH (tupleKind (mixKind P w)) a xs := by
  obtain ⟨z, y, xs, r, o, es, ep, h1, h2, h3, h4, h5⟩ := (show ObjOk P w H h a (.dT kvs) from rd_of ok e)
  refine ⟨z, y, xs, r, o, es, ep, h1, h2, h3, h4, fun x hx => ?_, h5⟩
  have all : ∀ {l : List (List Key × V)} {m : List (List Key × Addr × Value)}, KT H l m → ∀ x ∈ m, (tupleKind (mixKind P w)).is h x.1 x.2.1 := by
    intro l m q
    induction q with
    | nil => intro x hx; exact nomatch hx
    | @cons p q ps qs hq t ih =>
      intro x hx
      rcases List.mem_cons.mp hx with e | hx
      · subst e
        exact key_of ok (by rw [← hq.1]; exact hq.2.1)
      · exact ih x hx
  exact all r x hx
theorem dt_of {kvs : List (List Key × V)} (ok : HOk P w H h) (e : H a = some (.dT kvs)) : kvs.length ≤ sizeLine ∧ (a == sysModules) = false ∧
    ∃ xs, KT H kvs xs ∧ h.DictOfH (tupleKind (mixKind P w)) a xs := dt_rd ok (.inl e)
end

/-- what the dict at a holds at the key y -/
noncomputable def DGet (H : Hp) (a : Addr) (y : V) (r : Option V) : Prop :=
  (∃ kvs k, Rd H a (.dK kvs) ∧ y = kV k ∧ r = valV kvs k) ∨ ∃ kvs k b, Rd H a (.dT kvs) ∧ y = .ref b ∧ H b = some (.tup (k.map kV)) ∧ r = valV kvs k
/-- the heap behind a[y] = v -/
noncomputable def DPut (H : Hp) (a : Addr) (y v : V) (H' : Hp) : Prop :=
  (∃ kvs k, H a = some (.dK kvs) ∧ y = kV k ∧ kvs.length < sizeLine ∧ H' = upd H a (.dK (putK kvs k v))) ∨
  ∃ kvs k b, H a = some (.dT kvs) ∧ y = .ref b ∧ H b = some (.tup (k.map kV)) ∧ kvs.length < sizeLine ∧ H' = upd H a (.dT (putK kvs k v))
theorem DGet.k {H : Hp} {a : Addr} {kvs : List (Key × V)} {k : Key} (e : H a = some (.dK kvs)) : DGet H a (kV k) (valV kvs k) := .inl ⟨kvs, k, .inl e, rfl, rfl⟩
theorem DGet.t {H : Hp} {a b : Addr} {kvs : List (List Key × V)} {k : List Key} (e : H a = some (.dT kvs)) (eb : H b = some (.tup (k.map kV))) : DGet H a (.ref b) (valV kvs k) := .inr ⟨kvs, k, b, .inl e, rfl, eb, rfl⟩
theorem DPut.k {H : Hp} {a : Addr} {kvs : List (Key × V)} {k : Key} {v : V} (e : H a = some (.dK kvs)) (hl : kvs.length < sizeLine) : DPut H a (kV k) v (upd H a (.dK (putK kvs k v))) := .inl ⟨kvs, k, e, rfl, hl, rfl⟩
theorem DPut.t {H : Hp} {a b : Addr} {kvs : List (List Key × V)} {k : List Key} {v : V} (e : H a = some (.dT kvs)) (eb : H b = some (.tup (k.map kV))) (hl : kvs.length < sizeLine) :
    DPut H a (.ref b) v (upd H a (.dT (putK kvs k v))) := .inr ⟨kvs, k, b, e, rfl, eb, hl, rfl⟩


section
variable {X : Cx} {pins : List (Addr × Obj)} {σ : St} {H : Hp} {s : Shared} {a : Addr} {y v : V} {u r : Value} {o : Option V} {A : Around} {E : Value → Shared → Prop}

theorem Inv.big (I : Inv X pins σ H s) : sysModules < s.heap.objs.size := by
  have h : mainGlobals < s.heap.objs.size := (I.mod.glob.keeps I.bk).lt
  exact Nat.lt_trans (by decide) h

/-- d[y], there -/
theorem d_getItem {Q : Value → Shared → Prop} (hu : A.units + 1 < cLine) (I : Inv X pins σ H s) (g : DGet H a y (some v)) (ry : RelV y u) (h : ∀ w' s', Inv X pins σ H s' → RelV v w' → Q w' s') :
    wpAny (model X.prog X.w) A (getItem (.ref a) u) Q E s := by
  rcases g with ⟨kvs, k, e, ey, l⟩ | ⟨kvs, k, b, e, ey, eb, l⟩
  · subst ey
    obtain ⟨z, hd, vs, rel, dd⟩ := dk_rd I.hok e
    obtain ⟨w', hw, rw'⟩ := RelO.some_of (v := v) (o := valueAt vs k) (by rw [l]; exact rel.val k)
    exact wpAny_getItem_of (kV_is ry) dd.mapOf hw (h w' _ (I.tok _) rw')
  · subst ey
    cases (show u = Value.ref b from ry)
    obtain ⟨z, hd, xs, rel, dd⟩ := dt_rd I.hok e
    obtain ⟨w', hw, rw'⟩ := RelO.some_of (v := v) (o := (atKey xs k).map (·.2)) (by rw [l]; exact rel.val k)
    obtain ⟨p, hp, hp2⟩ := Option.map_eq_some_iff.mp hw
    refine wpAny_getItem_heap (tupleKind_room_in1 hu) (key_of I.hok eb) dd hp ?_
    rw [hp2]
    exact h w' _ (I.tok _) rw'
/-- a dict's object is replaced -/
theorem d_write {h' : Heap} {t' : Nat} {ob : HO} (I : Inv X pins σ H s) (mu : Mut (H a)) (hs : Heap.SameBut a s.heap h') (he : ∃ q, h'.get? a = some q) (new : ObjOk X.prog X.w (upd H a ob) h' a ob) :
    Inv X pins σ (upd H a ob) { s with heap := h', toks := t' } :=
  I.write (x := a) (e := a) mu (.inl rfl) (fun b q hb z => (hs.2 b hb).trans z) he new
theorem dk_new {P : Program} {w : World} {H' : Hp} {h' : Heap} {kvs : List (Key × V)} {vs : List (Key × Value)} (z : kvs.length ≤ sizeLine) (hd : (a == sysModules) = false) (rel : KV kvs vs) (dd : h'.DictOf (mixKind P w) a vs) :
    ObjOk P w H' h' a (.dK kvs) := ⟨z, hd, vs, rel, dd⟩
/-- d[y] = v -/
theorem d_setItem {H' : Hp} {Q : Unit → Shared → Prop} (hu : A.units + 1 < cLine) (I : Inv X pins σ H s) (g : DPut H a y v H') (ry : RelV y u) (rv : RelV v r) (h : ∀ s', Inv X pins σ H' s' → Q () s') :
    wpAny (model X.prog X.w) A (setItem (.ref a) u r) Q E s := by
  rcases g with ⟨kvs, k, e, ey, l, eH⟩ | ⟨kvs, k, b, e, ey, eb, l, eH⟩
  · subst ey eH
    obtain ⟨z, hd, vs, rel, dd⟩ := dk_of I.hok e
    have hz : vs.length ≤ sizeLine := by rw [← rel.length]; exact z
    have hl : (putK kvs k v).length ≤ sizeLine := by have := length_putK kvs k v; omega
    refine wpAny_setItem_pairs (hsz := hz) (kV_is ry) dd fun h' dd' hs => h _ ?_
    have he : ∃ q, h'.get? a = some q := let ⟨q, _, _, hq, _⟩ := dd'; ⟨q, hq⟩
    exact d_write I (by rw [e]; exact True.intro) hs he (dk_new hl hd (rel.put k rv) dd')
  · subst ey eH
    cases (show u = Value.ref b from ry)
    obtain ⟨z, hd, xs, rel, dd⟩ := dt_of I.hok e
    have hz : xs.length ≤ sizeLine := by rw [← Paired.length rel]; exact z
    have hl : (putK kvs k v).length ≤ sizeLine := by have := length_putK kvs k v; omega
    refine wpAny_setItem_heap (hsz := hz) (tupleKind_room_in1 hu) (key_of I.hok eb) dd fun h' dd' hs => h _ ?_
    obtain ⟨q, es, ep, hq, h2, h3, h4, _, h5⟩ := dd'
    refine d_write I (by rw [e]; exact True.intro) hs ⟨q, hq⟩ ⟨hl, hd, _, (rel.put k eb rv).keeps fun c ys ec => ?_, q, es, ep, hq, h2, h3, h4, h5⟩
    rw [upd_ne (ne_of ec e (fun z => nomatch z))]
    exact ec
end

section
variable {X : Cx} {pins : List (Addr × Obj)} {σ : St} {H : Hp} {s : Shared} {a : Addr} {kvs : List (Key × V)} {k : Key} {u : Value} {A : Around} {E : Value → Shared → Prop}
end


/-! ### readings and rules -/
/-- the element of a subscription, not a slice -/
noncomputable def NoSl (i : Expr) : Prop := ∀ ov iv, subscripted i false ov iv = operate [ov, iv] (getItem ov iv)
theorem subD_of {prog : Program} {w : World} {A : Around} {E : Value → Shared → Prop} {s : Shared} {env : Env} {value slice : Expr} {pos : Pos} {T id : String} {Q : Value → Shared → Prop}
    (hl : typeLookup (.type T) "__getitem__" = pure (some (.builtin id))) (hs : NoSl slice)
    (h : wpAny (model prog w) A (eval value env) (fun o s₁ => wpAny (model prog w) A (eval slice env) (fun i s₂ => s₂.TypeIs o T ∧ wpAny (model prog w) A (getItem o i) Q E s₂) E s₁) E s) :
    wpAny (model prog w) A (eval (.Subscript value slice pos) env) Q E s := by
  refine Subscript_ (wpAny_mono h (fun o s₁ h₁ => wpAny_mono h₁ (fun i s₂ h₂ => ?_) fun _ _ x => x) fun _ _ x => x)
  obtain ⟨hT, h₂⟩ := h₂
  unfold subscriptTail
  refine wpAny_bind ?_
  rw [getitemInPython_of_ne hT.not_modules]
  refine wpAny_bind (wpAny_specialOf hT hl ?_)
  have fin : wpAny (model prog w) A (subscripted slice false o i) (fun r s₃ => wpAny (model prog w) A (letTemporaryGo value o r >>= fun _ => pure r) Q E s₃) E s₂ := by
    rw [hs o i]
    exact wpAny_operating (wpAny_mono h₂ (fun r s₃ h₃ => wpAny_bind (wpAny_letTemporaryGo (wpAny_pure h₃))) fun _ _ x => x)
  first
    | exact wpAny_pure (wpAny_bind fin)
    | exact wpAny_bind (wpAny_pure (wpAny_bind fin))
    | exact wpAny_bind fin

theorem dict_typeIs {X : Cx} {pins : List (Addr × Obj)} {σ : St} {H : Hp} {s : Shared} {a : Addr} {y : V} {o : Option V} (I : Inv X pins σ H s) (g : DGet H a y o) : s.TypeIs (.ref a) "dict" := by
  rcases g with ⟨kvs, k, e, _, _⟩ | ⟨kvs, k, b, e, _, _, _⟩
  · obtain ⟨_, _, vs, _, dd⟩ := dk_rd I.hok e
    exact dd.typeIs
  · obtain ⟨_, _, xs, _, dd⟩ := dt_rd I.hok e
    exact dd.typeIs
/-- d[y] -/
noncomputable def tDGet (td ty : TE) : TE := fun σ H Q => td σ H fun x H1 => ty σ H1 fun y H2 => ∃ a v, x = .ref a ∧ DGet H2 a y (some v) ∧ Q v H2
/-- d[y] = v -/
noncomputable def sDPut (td ty tv : TE) : TS := fun D σ H => tv σ H fun v H1 => td σ H1 fun x H2 => ty σ H2 fun y H3 => ∃ a H4, x = .ref a ∧ DPut H3 a y v H4 ∧ D.nx σ H4
section
variable {X : Cx} {o i e value : Expr} {pos pos' tpos : Pos} {td ty tv : TE}
theorem pe_dget (hu : X.A.units + 1 < cLine) (ho : PE X o td) (hi : PE X i ty) (hs : NoSl i) : PE X (.Subscript o i pos) (tDGet td ty) := by
  intro pins s σ H Q I h
  refine subD_of PySem.F.slot_dict_getitem.lookup hs (thn (ho pins s σ H _ I h) fun u s1 ⟨x, H1, I1, rx, q1⟩ => thn (hi pins s1 σ H1 _ I1 q1) fun iv s2 ⟨y, H2, I2, ry, a, v, ex, g, q2⟩ => ?_)
  subst ex
  obtain rfl : u = Value.ref a := rx
  exact ⟨dict_typeIs I2 g, d_getItem hu I2 g ry fun w' s3 I3 rw' => ⟨v, H2, I3, rw', q2⟩⟩
theorem ps_dput (hu : X.A.units + 1 < cLine) (ho : PE X o td) (hi : PE X i ty) (hv : PE X value tv) (hs : swapsWith value (some (.Subscript o i pos')) pos.line X.env = pure false) :
    PS X (.Assign [.Subscript o i pos'] value pos) (sDPut td ty tv) := by
  intro pins s σ H D I h
  refine wpAny_Assign_Subscript (thn (hv pins s σ H _ I h) fun r s1 ⟨v, H1, I1, rv, q1⟩ => thn (ho pins s1 σ H1 _ I1 q1) fun u s2 ⟨x, H2, I2, rx, q2⟩ => thn (hi pins s2 σ H2 _ I2 q2) fun iv s3 ⟨y, H3, I3, ry, a, H4, ex, g, q3⟩ => ?_) hs
  subst ex
  obtain rfl : u = Value.ref a := rx
  exact d_setItem hu I3 g ry rv fun s4 I4 => ⟨σ, H4, I4, q3⟩
end


/-! ### displays -/
theorem dk_empty {P : Program} {w : World} {H : Hp} (h : Heap) (hb : sysModules < h.objs.size) : ObjOk P w H (h.push { cls := .type "dict", data := .dict #[] }) h.objs.size (.dK []) :=
  ⟨Nat.zero_le _, beq_eq_false_iff_ne.mpr (Ne.symm (Nat.ne_of_lt hb)), [], .nil, Heap.DictOf.new h⟩
theorem dt_empty {P : Program} {w : World} {H : Hp} (h : Heap) (hb : sysModules < h.objs.size) : ObjOk P w H (h.push { cls := .type "dict", data := .dict #[] }) h.objs.size (.dT []) :=
  ⟨Nat.zero_le _, beq_eq_false_iff_ne.mpr (Ne.symm (Nat.ne_of_lt hb)), [], .nil, _, #[], 0, Heap.get?_push_size _ rfl, ⟨rfl, rfl, rfl⟩, rfl, rfl, List.nodup_nil⟩
/-- {}, to be a dict of the kind that is wanted -/
noncomputable def tDNewK : TE := fun _ H Q => ∀ p, H p = none → Q (.ref p) (upd H p (.dK []))
noncomputable def tDNewT : TE := fun _ H Q => ∀ p, H p = none → Q (.ref p) (upd H p (.dT []))
section
variable {X : Cx} {pos : Pos}
theorem pe_dnewK : PE X (.Dict [] [] pos) tDNewK := fun pins s σ H Q I h =>
  wpAny_Dict_empty ⟨.ref s.heap.objs.size, _, I.laid (a := s.heap.objs.size) (o := .dK []) (t' := s.toks) (fun _ _ q => Heap.get?_push_of_some _ q) (Nat.le_refl _) (dk_empty s.heap I.big), rfl, h _ (I.hok.fresh (Nat.le_refl _))⟩
theorem pe_dnewT : PE X (.Dict [] [] pos) tDNewT := fun pins s σ H Q I h =>
  wpAny_Dict_empty ⟨.ref s.heap.objs.size, _, I.laid (a := s.heap.objs.size) (o := .dT []) (t' := s.toks) (fun _ _ q => Heap.get?_push_of_some _ q) (Nat.le_refl _) (dt_empty s.heap I.big), rfl, h _ (I.hok.fresh (Nat.le_refl _))⟩
end

/-! ### methods -/
/-- a method call o.m(e) of a built-in, with one argument: what must be seen of the text -/
structure M1 (X : Cx) (o : Expr) (m : Str) (apos : Pos) (e : Expr) (cpos : Pos) : Prop where
  base : attributeBase o m X.env (eval o X.env) = eval o X.env
  few : ((backTo cpos (starEach [e] X.env)).all (fun x => !x.1) && (backToKw cpos (keywordEach [] X.env)).all (fun x => x.1.isSome)
    && decide (([e] : List Expr).length + ([] : List Keyword).length + (if ([] : List Keyword).isEmpty then 0 else 1) < 30)) = true
  line : (apos.endLine == cpos.line) = true
  trees : backTo cpos (starEach [e] X.env) = [(false, eval e X.env)]
structure M2 (X : Cx) (o : Expr) (m : Str) (apos : Pos) (e f : Expr) (cpos : Pos) : Prop where
  base : attributeBase o m X.env (eval o X.env) = eval o X.env
  few : ((backTo cpos (starEach [e, f] X.env)).all (fun x => !x.1) && (backToKw cpos (keywordEach [] X.env)).all (fun x => x.1.isSome)
    && decide (([e, f] : List Expr).length + ([] : List Keyword).length + (if ([] : List Keyword).isEmpty then 0 else 1) < 30)) = true
  line : (apos.endLine == cpos.line) = true
  trees : backTo cpos (starEach [e, f] X.env) = [(false, eval e X.env), (false, eval f X.env)]

/-- a is a dict, whatever its keys -/
noncomputable def IsD (H : Hp) (a : Addr) : Prop := (∃ kvs, Rd H a (.dK kvs)) ∨ ∃ kvs, Rd H a (.dT kvs)
theorem isD_at {X : Cx} {pins : List (Addr × Obj)} {σ : St} {H : Hp} {s : Shared} {a : Addr} (I : Inv X pins σ H s) (d : IsD H a) :
    s.TypeIs (.ref a) "dict" ∧ (∀ b, Value.ref a = .ref b → ∃ ob, s.heap.get? b = some ob ∧ ob.dict = none) ∧ (a == sysModules) = false := by
  rcases d with ⟨kvs, e⟩ | ⟨kvs, e⟩
  · obtain ⟨_, hd, vs, _, dd⟩ := dk_rd I.hok e
    refine ⟨dd.typeIs, fun b q => ?_, hd⟩
    cases q
    obtain ⟨ob, _, _, h1, h2, _⟩ := dd
    exact ⟨ob, h1, h2.2.1⟩
  · obtain ⟨_, hd, xs, _, dd⟩ := dt_rd I.hok e
    refine ⟨dd.typeIs, fun b q => ?_, hd⟩
    cases q
    obtain ⟨ob, _, _, h1, h2, _⟩ := dd
    exact ⟨ob, h1, h2.2.1⟩

section
variable {X : Cx} {pins : List (Addr × Obj)} {σ : St} {H : Hp} {s : Shared} {a : Addr} {y d : V} {u r : Value} {o : Option V} {A : Around} {E : Value → Shared → Prop}
/-- d.get(y, x) -/
theorem d_get2 {Q : Value → Shared → Prop} (hu : A.units + 1 < cLine) (I : Inv X pins σ H s) (g : DGet H a y o) (ry : RelV y u) (rd : RelV d r) (h : ∀ w' s', Inv X pins σ H s' → RelV (o.getD d) w' → Q w' s') :
    wpAny (model X.prog X.w) A (call (.builtin "dict.get") [.ref a, u, r]) Q E s := by
  rcases g with ⟨kvs, k, e, ey, l⟩ | ⟨kvs, k, b, e, ey, eb, l⟩
  · subst ey
    obtain ⟨z, hd, vs, rel, dd⟩ := dk_rd I.hok e
    refine call_meetsIn PySem.F.slot_dict_get dd.typeIs PySem.F.entry_dict_get (PySem.F.args_dict_get_3 _ _ _) (meets_dict_get_default (mixKind X.prog X.w) a (kV_is ry) hd r) ⟨_, dd.mapOf, h _ _ (I.tok _) ?_⟩
    rw [l]
    exact (rel.val k).getD rd
  · subst ey
    cases (show u = Value.ref b from ry)
    obtain ⟨z, hd, xs, rel, dd⟩ := dt_rd I.hok e
    refine call_meetsIn PySem.F.slot_dict_get dd.typeIs PySem.F.entry_dict_get (PySem.F.args_dict_get_3 _ _ _) (meetsH_dict_get_default (tupleKind (mixKind X.prog X.w)) a b hd r) ⟨tupleKind_room_in1 hu, k, xs, key_of I.hok eb, dd, h _ _ (I.tok _) ?_⟩
    rw [l]
    exact (rel.val k).getD rd
end

noncomputable def tDGet2 (td ty tx : TE) : TE := fun σ H Q => td σ H fun x H1 => ∃ a, x = .ref a ∧ IsD H1 a ∧ ty σ H1 fun y H2 => tx σ H2 fun z H3 => ∃ o, DGet H3 a y o ∧ Q (o.getD z) H3
section
variable {X : Cx} {o e f : Expr} {apos cpos : Pos} {td ty tx : TE}
theorem pe_dget2 (hu : X.A.units + 1 < cLine) (ho : PE X o td) (he : PE X e ty) (hf : PE X f tx) (m : M2 X o "get" apos e f cpos) : PE X (.Call (.Attribute o "get" apos) [e, f] [] cpos) (tDGet2 td ty tx) := by
  intro pins s σ H Q I h
  refine wpAny_Call_method m.base m.few m.line PySem.F.plainAttrs_dict PySem.F.slot_dict_get PySem.F.type_dict_get (thn (ho pins s σ H _ I h) fun u s1 ⟨x, H1, I1, rx, a, ex, d, q1⟩ => ?_)
  subst ex
  obtain rfl : u = Value.ref a := rx
  obtain ⟨t1, t2, _⟩ := isD_at I1 d
  refine ⟨t1, t2, ?_⟩
  rw [m.trees]
  refine Calls.callWith_builtin rfl (Calls.evalArgs_plain (Calls.spliced_cons (thn (he pins s1 σ H1 _ I1 q1) fun iv s2 ⟨y, H2, I2, ry, q2⟩ =>
    Calls.spliced_cons (thn (hf pins s2 σ H2 _ I2 q2) fun fv s3 ⟨z, H3, I3, rz, ov, g, q3⟩ => Calls.spliced_nil ?_))))
  exact d_get2 hu I3 g ry rz fun w' s4 I4 rw' => ⟨_, H3, I4, rw', q3⟩
end

/-! ### dict(d): a copy -/
section
variable {X : Cx} {pins : List (Addr × Obj)} {σ : St} {H : Hp} {s : Shared} {a : Addr} {kvs : List (Key × V)} {A : Around} {E : Value → Shared → Prop}
end


section
variable {X : Cx} {pins : List (Addr × Obj)} {σ : St} {H : Hp} {s : Shared} {a : Addr} {y : V} {u : Value} {A : Around} {E : Value → Shared → Prop}
end
end L2
namespace L2
open PySem PySem.Spec PyProof.Rows
/-! ### a dict's pairs: keys that differ -/
section
variable {κ : Type} [DecidableEq κ]
end
end L2

set_option Elab.async false
set_option linter.all false
set_option maxRecDepth 100000
set_option maxHeartbeats 2000000
namespace L2
open PySem PySem.Spec PyProof.Rows
/-! ### a dict walked by its keys, whatever they are -/
/-- the dict at d with the entries es -/
noncomputable def RawD (h : Heap) (d : Addr) (es : Array DictEntry) (ep : Nat) : Prop := ∃ o, h.get? d = some o ∧ o.ExactDict ∧ o.data = .dict es ep
theorem RawD.is {s : Shared} {d : Addr} {es : Array DictEntry} {ep : Nat} (x : RawD s.heap d es ep) : s.TypeIs (.ref d) "dict" := let ⟨o, a, b, _⟩ := x; ⟨o, a, b.1⟩
theorem RawD.lt {h : Heap} {d : Addr} {es : Array DictEntry} {ep : Nat} (x : RawD h d es ep) : d < h.objs.size := let ⟨_, a, _⟩ := x; Heap.lt_size a
theorem RawD.to {h h' : Heap} {d : Addr} {es : Array DictEntry} {ep : Nat} (x : RawD h d es ep) (k : ∀ o, h.get? d = some o → h'.get? d = some o) : RawD h' d es ep := let ⟨o, a, r⟩ := x; ⟨o, k _ a, r⟩
section
variable {prog : Program} {w : World} {A : Around} {E : Value → Shared → Prop} {s : Shared} {d it : Addr} {es : Array DictEntry} {ep : Nat}
theorem iter_raw {Q : Value → Shared → Prop} (lo : (d == sysModules) = false) (x : RawD s.heap d es ep)
    (q : Q (.ref s.heap.objs.size) { s with heap := s.heap.push { cls := .type "dict_keyiterator", data := .fields #[.ref d, .int 0 0, .int es.size 0, .int ep 0] } }) :
    wpAny (model prog w) A (pyIter (.ref d)) Q E s := by
  obtain ⟨o, x1, x2, x3⟩ := id x
  have tt := x.is
  refine wpAny_pyIter_slot tt F.slot_dict_iter (wpAny_call_entry F.slot_dict_iter tt F.entry_dict_iter ?_ (F.args_dict_iter_1 _))
  unfold Builtin.«dict.__iter__» Builtin.Dict.dictSlotNone
  refine wpAny_bind (wpAny_bind (wpAny_notOrdered_dict tt ?_))
  show wpAny (model prog w) _ (pure (Value.ref d)) _ _ s
  refine wpAny_pure (?_ : _)
  show wpAny (model prog w) _ (Builtin.Dict.showsAll d >>= _) _ _ s
  unfold Builtin.Dict.showsAll
  rw [if_neg (fun z => Bool.false_ne_true (lo.symm.trans z))]
  refine wpAny_bind (wpAny_pure (wpAny_bind (wpAny_dictEntries x1 x3 (wpAny_bind (wpAny_dictEpoch x1 x3 ?_)))))
  exact wpAny_bind (wpAny_newObj_type (wpAny_pure ⟨_, rfl, "dict_keyiterator", _, ⟨_, Heap.get?_push_size _ rfl, rfl⟩, F.slot_dict_keyiterator_next.lookup, by simpa [rawInt] using q⟩))
theorem next_raw {i : Nat} {Q : Option Value → Shared → Prop} (y : s.heap.IsKeyIter it d i es.size ep) (x : RawD s.heap d es ep) (hi : i < es.size)
    (q : ∀ h', h'.IsKeyIter it d (i + 1) es.size ep → Heap.SameBut it s.heap h' → Q (some es[i].key) { s with heap := h' }) :
    wpAny (model prog w) A (pyNext (.ref it)) Q E s := by
  obtain ⟨o, y1, y2, y3⟩ := id y
  obtain ⟨od, x1, x2, x3⟩ := id x
  have own : Builtin.Dict_items.ownsTuple "dict_keyiterator" = false := by decide
  unfold pyNext
  refine wpAny_bind (wpAny_attempt (wpAny_callSpecial?_slot (name := Str.ofString "__next__") y.typeIs F.slot_dict_keyiterator_next (wpAny_call_entry F.slot_dict_keyiterator_next y.typeIs F.entry_dict_keyiterator_next ?_ (F.args_dict_keyiterator_next_1 _))))
  refine wpAny_bind (wpAny_pure (wpAny_bind (wpAny_bind ?_)))
  first | refine wpAny_bind (wpAny_typeNameOfWhole_keyiter y.typeIs (wpAny_pure ?_)) | refine wpAny_bind (wpAny_typeNameOf_keyiter y.typeIs (wpAny_pure ?_))
  refine wpAny_bind (wpAny_fieldsOf y1 y3 ?_)
  simp only [own, Bool.false_eq_true, if_false]
  show wpAny (model prog w) _ (if (Value.ref d == Value.none) = true then _ else _) _ _ s
  rw [if_neg (show ¬ (Value.ref d == Value.none) = true from Bool.false_ne_true)]
  refine wpAny_bind (wpAny_pure (wpAny_bind (wpAny_dictEntries x1 x3 ?_)))
  rw [if_neg (by simp)]
  refine wpAny_bind (wpAny_pure (wpAny_bind (wpAny_dictEpoch x1 x3 ?_)))
  rw [if_neg (by simp)]
  refine wpAny_pure (?_ : _)
  simp only [show ¬ ((i : Int) < 0) from by omega, if_false, Int.toNat_natCast, Array.getElem?_eq_getElem hi]
  refine wpAny_bind (?_ : _)
  first | refine wpAny_bind (wpAny_typeNameOfWhole_keyiter y.typeIs (wpAny_pure ?_)) | refine wpAny_bind (wpAny_typeNameOf_keyiter y.typeIs (wpAny_pure ?_))
  refine wpAny_bind (wpAny_isOneOf_keyiter y.typeIs ?_)
  show wpAny (model prog w) _ (setField (.ref it) 1 (rawInt ((i : Int) + 1)) >>= _) _ _ s
  refine wpAny_bind (wpAny_setField y1 y3 (by simp) ?_)
  have y' : (s.heap.update it (Obj.mapFields (·.setIfInBounds 1 (rawInt ((i : Int) + 1))))).IsKeyIter it d (i + 1) es.size ep :=
    ⟨_, Heap.get?_update_self _ y1 (Obj.isFreed_of_fields (Obj.data_mapFields y3 _)), (Obj.cls_mapFields ..).trans y2, by rw [Obj.data_mapFields y3]; simp [rawInt]⟩
  refine wpAny_bind (wpAny_holding (wpAny_bind (wpAny_isOneOf_keyiter (s := { s with heap := s.heap.update it (Obj.mapFields (·.setIfInBounds 1 (rawInt ((i : Int) + 1)))) }) y'.typeIs ?_)))
  show wpAny (model prog w) _ (pure es[i].key) _ _ _
  exact wpAny_pure (wpAny_pure ⟨_, rfl, wpAny_pure (q _ y' (Heap.SameBut.update ..))⟩)
theorem end_raw {i : Nat} {Q : Option Value → Shared → Prop} (hh : A.handled = none) (y : s.heap.IsKeyIter it d i es.size ep) (x : RawD s.heap d es ep) (hi : es.size ≤ i)
    (q : ∀ h', Heap.ExtBut it s.heap h' → Q none { s with heap := h' }) :
    wpAny (model prog w) A (pyNext (.ref it)) Q E s := by
  obtain ⟨o, y1, y2, y3⟩ := id y
  obtain ⟨od, x1, x2, x3⟩ := id x
  have own : Builtin.Dict_items.ownsTuple "dict_keyiterator" = false := by decide
  unfold pyNext
  refine wpAny_bind (wpAny_attempt (wpAny_callSpecial?_slot (name := Str.ofString "__next__") y.typeIs F.slot_dict_keyiterator_next (wpAny_call_entry F.slot_dict_keyiterator_next y.typeIs F.entry_dict_keyiterator_next ?_ (F.args_dict_keyiterator_next_1 _))))
  refine wpAny_bind (wpAny_pure (wpAny_bind (wpAny_bind ?_)))
  first | refine wpAny_bind (wpAny_typeNameOfWhole_keyiter y.typeIs (wpAny_pure ?_)) | refine wpAny_bind (wpAny_typeNameOf_keyiter y.typeIs (wpAny_pure ?_))
  refine wpAny_bind (wpAny_fieldsOf y1 y3 ?_)
  simp only [own, Bool.false_eq_true, if_false]
  show wpAny (model prog w) _ (if (Value.ref d == Value.none) = true then _ else _) _ _ s
  rw [if_neg (show ¬ (Value.ref d == Value.none) = true from Bool.false_ne_true)]
  refine wpAny_bind (wpAny_pure (wpAny_bind (wpAny_dictEntries x1 x3 ?_)))
  rw [if_neg (by simp)]
  refine wpAny_bind (wpAny_pure (wpAny_bind (wpAny_dictEpoch x1 x3 ?_)))
  rw [if_neg (by simp)]
  refine wpAny_pure (?_ : _)
  simp only [show ¬ ((i : Int) < 0) from by omega, if_false, Int.toNat_natCast, Array.getElem?_eq_none hi]
  refine wpAny_bind (?_ : _)
  first | refine wpAny_bind (wpAny_typeNameOfWhole_keyiter y.typeIs (wpAny_pure ?_)) | refine wpAny_bind (wpAny_typeNameOf_keyiter y.typeIs (wpAny_pure ?_))
  show wpAny (model prog w) _ (setField (.ref it) 0 .none >>= _) _ _ s
  refine wpAny_bind (wpAny_setField y1 y3 (by simp) ?_)
  show wpAny (model prog w) _ (newExc (.type "StopIteration") [] >>= _) _ _ _
  refine wpAny_bind (?_ : _)
  unfold newExc newTuple
  refine wpAny_bind (wpAny_newObj_type ?_ (Nat.zero_le _))
  refine wpAny_bind (m := firstArgMember _ _) (wpAny_of_eq (a := Value.none) (by first | rfl | (unfold firstArgMember; rfl)) ?_)
  refine wpAny_newObj_type ?_ (by size_fits)
  unfold raiseNew
  refine wpAny_bind (wpAny_handled ?_)
  have hn : A.in1.handled = none := hh
  rw [hn]
  refine wpAny_bind (wpAny_pure (wpAny_throw (?_ : _)))
  refine wpAny_bind (wpAny_isInstance (b := true) (T := "StopIteration") ⟨_, Heap.get?_push_size _ rfl, rfl⟩ isSubtype_stop ?_)
  exact wpAny_pure (q _ (((Heap.SameBut.update ..).extBut.push _).push _))
theorem walk_raw (hh : A.handled = none) (I : Addr) (ne : d ≠ I) :
    Walks prog w A I [I, d] [I] es.size (fun i v => ∃ e, es[i]? = some e ∧ v = e.key) (fun i h => h.IsKeyIter I d i es.size ep ∧ RawD h d es ep) where
  sub := by intro b z; simp at z; simp [z]
  frame := fun i h h' st k => ⟨st.1.at (k I (by simp)), st.2.to (k d (by simp))⟩
  item := fun i s Q E hi st q => next_raw st.1 st.2 hi fun h' y' hs => q _ h' s.toks ⟨es[i], by simp [hi], rfl⟩ ⟨y', st.2.to fun o e => hs.extBut d o ne e⟩ fun b o hb e => hs.extBut b o (fun z => hb (by simp [z])) e
  done := fun s Q E st q => end_raw hh st.1 st.2 (Nat.le_refl _) fun h' he => q h' s.toks fun b o hb e => he b o (fun z => hb (by simp [z])) e
  self := fun i s Q E st q => wpAny_pyIter_keyiter st.1 q
theorem src_raw (lo : (d == sysModules) = false) : PySem.W.KdlSrc prog w "dict" d d es.size (fun i v => ∃ e, es[i]? = some e ∧ v = e.key) (fun h => RawD h d es ep) where
  type := fun s x => x.is
  there := fun h x => ⟨x.lt, x.lt⟩
  keep := fun h h' x k => x.to fun o e => k d (Or.inl rfl) o e
  notList := rfl
  notTuple := rfl
  hint := fun A E s Q x q => PySem.W.kdl_hint_dict x.is q
  iter := fun A s hh x => ⟨_, _, (fun E Q q => iter_raw lo x q), walk_raw hh _ (Nat.ne_of_lt x.lt), ⟨⟨_, Heap.get?_push_size _ rfl, rfl, rfl⟩, x.to fun o e => Heap.get?_push_of_some _ e⟩⟩
end
end L2

set_option Elab.async false
set_option linter.all false
set_option maxRecDepth 100000
set_option maxHeartbeats 2000000
namespace L2
open PySem PySem.Spec PyProof.Rows PySem.W
/-! ### sorting by an order that is known: what is asked, what comes out -/
section
variable {lt : Nat → Nat → Bool} {n : Nat}
noncomputable def KW {α : Type} (lt : Nat → Nat → Bool) (n : Nat) (Q : α → Prop) : KasT α → Prop
  | .ret a => Q a
  | .ask i j k => i < n ∧ j < n ∧ KW lt n Q (k (lt i j))
theorem KW.bd {α β : Type} {f : α → KasT β} {Q : β → Prop} : ∀ {t : KasT α}, KW lt n (fun a => KW lt n Q (f a)) t → KW lt n Q (t.bind f)
  | .ret _, h => h
  | .ask _ _ k, ⟨h1, h2, h3⟩ => ⟨h1, h2, KW.bd (t := k _) h3⟩
theorem KW.mono {α : Type} {Q Q' : α → Prop} (hq : ∀ a, Q a → Q' a) : ∀ {t : KasT α}, KW lt n Q t → KW lt n Q' t
  | .ret a, h => hq a h
  | .ask _ _ k, ⟨h1, h2, h3⟩ => ⟨h1, h2, KW.mono hq (t := k _) h3⟩
theorem KW.wp {α : Type} {cmp : Nat → Nat → (Bool → Shared → Prop) → Shared → Prop} {s : Shared} {Q : α → Prop} (hc : ∀ i j C, i < n → j < n → C (lt i j) s → cmp i j C s) : ∀ {t : KasT α}, KW lt n Q t → t.kasWp cmp (fun a s' => s' = s ∧ Q a) s
  | .ret a, h => ⟨rfl, h⟩
  | .ask i j k, ⟨h1, h2, h3⟩ => hc i j _ h1 h2 (KW.wp hc (t := k _) h3)
noncomputable def Pm (n : Nat) (p : Array Nat) : Prop := p.toList.Perm (List.range n)
theorem Pm.low {p : Array Nat} (h : Pm n p) (hn : 0 < n) (i : Nat) : p.getD i 0 < n := by
  unfold Array.getD
  split
  · rename_i hi
    exact List.mem_range.mp (h.mem_iff.mp (Array.getElem_mem_toList hi))
  · exact hn
theorem Pm.rev {p : Array Nat} (h : Pm n p) (i j : Nat) : Pm n (kas_rev p i j) := (Array.perm_iff_toList_perm.mp (mirror_perm p i j _)).trans h
theorem Pm.bub {p : Array Nat} (h : Pm n p) (i j : Nat) : Pm n (bubble p i j) := (Array.perm_iff_toList_perm.mp (bubble_perm p i j)).trans h
end
/-! ### list.sort -/
section
variable {prog : Program} {w : World} {A : Around} {E : Value → Shared → Prop} {s : Shared}
/-- the heap while a list is sorted -/
noncomputable def midH (h : Heap) (a : Addr) (vs : List Value) : Heap := ((h.update a (Obj.mapSeq fun _ => #[])).push (seqObj "tuple" vs.toArray 0)).push (seqObj "list" #[] 0)
theorem mid_old {h : Heap} {a b : Addr} {vs : List Value} {o : Obj} (ne : b ≠ a) (e : h.get? b = some o) : (midH h a vs).get? b = some o :=
  Heap.get?_push_of_some _ (Heap.get?_push_of_some _ ((Heap.get?_update_ne _ _ _ _ ne).trans e))
theorem sorted_old {h : Heap} {a b : Addr} {vs : List Value} {out : Array Value} {o : Obj} (ne : b ≠ a) (e : h.get? b = some o) : (sortedHeap h a vs out).get? b = some o :=
  (Heap.get?_update_ne _ _ _ _ ne).trans (mid_old ne e)
theorem mid_at {h : Heap} {a : Addr} {vs xs : List Value} {n : Nat} (e : h.get? a = some (seqObj "list" xs.toArray n)) : ∃ c, (midH h a vs).get? a = some (seqObj "list" #[] c) ∧ (h.update a (Obj.mapSeq fun _ => #[])).get? a = some (seqObj "list" #[] c) :=
  ⟨_, Heap.get?_push_of_some _ (Heap.get?_push_of_some _ (get?_update_seq e fun _ => #[])), get?_update_seq e fun _ => #[]⟩
theorem sorted_at {h : Heap} {a : Addr} {vs xs : List Value} {n : Nat} {out : Array Value} (e : h.get? a = some (seqObj "list" xs.toArray n)) : ∃ c, (sortedHeap h a vs out).get? a = some (seqObj "list" out c) := by
  obtain ⟨c, h1, _⟩ := mid_at (vs := vs) e
  exact ⟨_, get?_update_seq h1 fun _ => out⟩
theorem sort_kw {a : Addr} {vs : List Value} {n : Nat} {κ : SortKind} {lt : Nat → Nat → Bool} {R : Array Nat → Prop} {P : PySem.Fin → Shared → Prop} (ho : s.heap.get? a = some (seqObj "list" vs.toArray n)) (h2 : 2 ≤ vs.length) (h64 : vs.length < 64)
    (hk : ∀ Q : SortKind → Shared → Prop, Q κ { s with heap := midH s.heap a vs } → wpAny (model prog w) A (keyKind' vs.toArray) Q E { s with heap := midH s.heap a vs })
    (hc : ∀ i j (C : Bool → Shared → Prop), i < vs.length → j < vs.length → C (lt i j) { s with heap := midH s.heap a vs } → wpAny (model prog w) A (keyLt' κ (vs.getD i Value.none) (vs.getD j Value.none)) C (fun _ _ => False) { s with heap := midH s.heap a vs })
    (kw : KW lt vs.length R (kas_sort vs.length))
    (h : ∀ p : Array Nat, p.size = vs.length → R p → P (.done (.ret .none)) { s with heap := sortedHeap s.heap a vs (List.toArray (p.toList.map fun i => vs.getD i Value.none)) }) :
    wpAny (model prog w) A (Builtin.«list.sort» ⟨[.ref a], []⟩) P E s := by
  obtain ⟨c, m1, m2⟩ := mid_at (vs := vs) ho
  have zs : ¬ vs.toArray.size < 2 := by rw [List.size_toArray]; omega
  have zl : vs.length ≤ sizeLine := by rw [sizeLine_eq]; omega
  rw [list_sort_plain]
  refine wpAny_bind (listItems_at ho rfl (wpAny_bind (listUpdate_at ho rfl ?_ (by rw [List.size_toArray]; exact zl) (Nat.zero_le _))))
  refine wpAny_bind (seqEpoch_at m2 rfl (wpAny_bind (wpAny_newTuple ?_ zl)))
  refine wpAny_bind (wpAny_newList ?_ (Nat.zero_le _))
  refine wpAny_holding (?_ : _)
  show wpAny (model prog w) A _ P E { s with heap := midH s.heap a vs }
  dsimp only
  rw [if_neg zs, if_neg zs]
  refine wpAny_bind (hk _ ?_)
  have run := kat_run (prog := prog) (w := w) (A := A) (E := E) (κ := κ) (ks := vs) (vs := vs) (s := { s with heap := midH s.heap a vs }) (Q := fun st' s' => s' = { s with heap := midH s.heap a vs } ∧ ∃ p : Array Nat, p.size = vs.length ∧ R p ∧ arrOf st' = p.map (kas_item (vs.toArray.zip vs.toArray)) ∧ failedOf st' = none)
    rfl h2 h64 (fun p st' s' b1 b2 b3 b4 => ⟨b4.1, p, b1, b4.2, b2, b3⟩) (KW.wp (cmp := kas_ask prog w A κ vs) (fun i j C li lj hC => hc i j C li lj hC) kw)
  refine wpAny_bind (wpAny_mono run ?_ fun _ _ e => e)
  rintro ⟨⟨⟩, st'⟩ s' ⟨rfl, p, pz, pR, har, hf⟩
  have out := kat_snds rfl har
  dsimp only
  rw [out]
  refine wpAny_bind (seqEpoch_at m1 rfl (wpAny_bind (listUpdate_at m1 rfl ?_ (Nat.zero_le _) ?_)))
  · rw [hf]
    simp only [bne_self_eq_false, Bool.false_eq_true, if_false]
    exact wpAny_pure (h p pz pR)
  · rw [List.size_toArray, List.length_map, Array.length_toList, pz]
    omega
theorem sort_few {a : Addr} {vs : List Value} {n : Nat} {P : PySem.Fin → Shared → Prop} (ho : s.heap.get? a = some (seqObj "list" vs.toArray n)) (h2 : vs.length < 2)
    (h : P (.done (.ret .none)) { s with heap := sortedHeap s.heap a vs vs.toArray }) : wpAny (model prog w) A (Builtin.«list.sort» ⟨[.ref a], []⟩) P E s := by
  obtain ⟨c, m1, m2⟩ := mid_at (vs := vs) ho
  have zs : vs.toArray.size < 2 := by rw [List.size_toArray]; omega
  have zl : vs.length ≤ sizeLine := by rw [sizeLine_eq]; omega
  rw [list_sort_plain]
  refine wpAny_bind (listItems_at ho rfl (wpAny_bind (listUpdate_at ho rfl ?_ (by rw [List.size_toArray]; exact zl) (Nat.zero_le _))))
  refine wpAny_bind (seqEpoch_at m2 rfl (wpAny_bind (wpAny_newTuple ?_ zl)))
  refine wpAny_bind (wpAny_newList ?_ (Nat.zero_le _))
  refine wpAny_holding (?_ : _)
  show wpAny (model prog w) A _ P E { s with heap := midH s.heap a vs }
  dsimp only
  rw [if_pos zs, if_pos zs]
  refine wpAny_bind (wpAny_pure (?_ : _))
  rw [StateT.run_pure]
  refine wpAny_bind (wpAny_pure (?_ : _))
  dsimp only
  have e : (vs.toArray.zip vs.toArray).map (·.2) = vs.toArray := by
    apply Array.toList_inj.mp
    simp [List.map_snd_zip]
  show wpAny (model prog w) A (seqEpoch a >>= _) P E _
  refine wpAny_bind (seqEpoch_at m1 rfl (wpAny_bind (listUpdate_at m1 rfl ?_ (Nat.zero_le _) ?_)))
  · simp only [bne_self_eq_false, Bool.false_eq_true, if_false]
    show wpAny (model prog w) A (ret Value.none) P E { s with heap := sortedHeap s.heap a vs ((vs.toArray.zip vs.toArray).map (·.2)) }
    rw [e]
    exact wpAny_pure h
  · show ((vs.toArray.zip vs.toArray).map (·.2)).size ≤ _
    rw [e, List.size_toArray]; omega
end
end L2

set_option Elab.async false
set_option linter.all false
set_option maxRecDepth 100000
set_option maxHeartbeats 2000000
namespace L2
open PySem PySem.Spec PyProof.Rows PySem.W
/-! ### sorted(d), of a dict whose keys are pairs of ints -/
/-- the order of pairs -/
noncomputable def ltP (x y : Int × Int) : Bool := if (x.1 == y.1) = true then (if (x.2 == y.2) = true then false else decide (x.2 < y.2)) else decide (x.1 < y.1)
/-- a tuple of two ints -/
noncomputable def TupI (h : Heap) (v : Value) (x : Int × Int) : Prop := ∃ a o t u n, v = .ref a ∧ h.get? a = some o ∧ o.cls = .type "tuple" ∧ o.data = .seq #[.int x.1 t, .int x.2 u] n
theorem TupI.to {h h' : Heap} {v : Value} {x : Int × Int} (z : TupI h v x) (k : ∀ b o, h.get? b = some o → h'.get? b = some o) : TupI h' v x :=
  let ⟨a, o, t, u, n, e, e1, r⟩ := z; ⟨a, o, t, u, n, e, k _ _ e1, r⟩
section
variable {prog : Program} {w : World} {A : Around} {E : Value → Shared → Prop} {s : Shared}
theorem lt_tupI {v v' : Value} {x y : Int × Int} {C : Bool → Shared → Prop} (hv : TupI s.heap v x) (hv' : TupI s.heap v' y) (h : C (ltP x y) s) : wpAny (model prog w) A (keyLt' (tuples' true) v v') C E s := by
  obtain ⟨a, o, t, u, n, rfl, a1, a2, a3⟩ := hv
  obtain ⟨b, o', t', u', n', rfl, b1, b2, b3⟩ := hv'
  refine kat_lt a1 a3 b1 b3 ?_
  show KatLex prog w A true false C [(.int x.1 t, .int y.1 t'), (.int x.2 u, .int y.2 u')] 0 s
  unfold ltP at h
  refine kat_cons (wpAny_eqBool_int (kat_go (fun e => ?_) fun e => ?_))
  · rw [if_pos e] at h
    refine kat_yes (kat_cons (wpAny_eqBool_int (kat_go (fun e2 => ?_) fun e2 => ?_)))
    · rw [if_pos e2] at h
      exact kat_yes (kat_nil h)
    · rw [if_neg (by rw [e2]; exact Bool.false_ne_true)] at h
      exact kat_no (kat_one _ _ (wpAny_lt_int h))
  · rw [if_neg (by rw [e]; exact Bool.false_ne_true)] at h
    exact kat_no (oneLt_int h)
theorem tups_of {h : Heap} : ∀ {vs : List Value}, (∀ v ∈ vs, ∃ x, TupI h v x) → ∃ fs, KatTups h vs fs ∧ fs.length = vs.length ∧ ∀ f ∈ fs, ∃ n t, f = Value.int n t
  | [], _ => ⟨[], .nil, rfl, fun _ z => nomatch z⟩
  | v :: vs, H => by
    obtain ⟨fs, a1, a2, a3⟩ := tups_of (vs := vs) fun u hu => H u (.tail _ hu)
    obtain ⟨x, a, o, t, u, n, rfl, b1, b2, b3⟩ := H v (.head _)
    refine ⟨.int x.1 t :: fs, KatTups.cons b1 b2 b3 rfl a1, congrArg (· + 1) a2, fun f hf => ?_⟩
    rcases List.mem_cons.mp hf with rfl | hf
    · exact ⟨_, _, rfl⟩
    · exact a3 f hf
theorem kind_tupI {vs : List Value} {Q : SortKind → Shared → Prop} (H : ∀ v ∈ vs, ∃ x, TupI s.heap v x) (h2 : 2 ≤ vs.length) (h : Q (tuples' true) s) : wpAny (model prog w) A (keyKind' vs.toArray) Q E s := by
  obtain ⟨fs, a1, a2, a3⟩ := tups_of H
  refine kat_kind (T := .type "int") a1 (by omega) (fun v hv => ?_) rfl h
  obtain ⟨n, t, rfl⟩ := a3 v hv
  exact Looks.of_pure rfl
end
end L2

set_option Elab.async false
set_option linter.all false
set_option maxRecDepth 100000
set_option maxHeartbeats 2000000
namespace L2
open PySem PySem.Spec PyProof.Rows PySem.W
/-! ### dicts with tuples for keys, read by computing -/
section
variable {X : Cx} {K : PySem.W.Frag}
/- {} -/
/- d[k] -/
@[irreducible] noncomputable def rDG (a : Addr) (y : V) (H : Hp) (Q : VK) : Prop := ∃ v, DGet H a y (some v) ∧ Q v H
noncomputable def rDGV (x y : V) (H : Hp) (Q : VK) : Prop := match x with
  | .ref a => rDG a y H Q
  | _ => False
noncomputable def tDG (td ty : TE) : TE := fun σ H Q => td σ H fun x H1 => ty σ H1 fun y H2 => rDGV x y H2 Q
theorem tDG_eq (td ty : TE) : tDG td ty = tDGet td ty := by
  funext σ H Q
  unfold tDG tDGet
  congr 1; funext x H1; congr 1; funext y H2
  unfold rDGV
  apply propext
  cases x <;> first
    | (simp only [V.ref.injEq]; unfold rDG; exact ⟨fun ⟨v, g, q⟩ => ⟨_, v, rfl, g, q⟩, fun ⟨a, v, e, g, q⟩ => ⟨v, e ▸ g, q⟩⟩)
    | exact ⟨fun z => z.elim, fun ⟨a, v, e, _⟩ => nomatch e⟩
theorem peDGet {o i : Expr} {td ty : TE} {pos : Pos} (hu : X.A.units + 40 < cLine) (ho : PE X o td) (hi : PE X i ty) (hs : NoSl i := by exact fun _ _ => rfl) : PE X (.Subscript o i pos) (tDG td ty) := tDG_eq td ty ▸ pe_dget (by omega) ho hi hs
theorem dgT_rd {a b : Addr} {H : Hp} {Q : VK} {kvs : List (List Key × V)} {k : List Key} {v : V} (e : H a = some (.dT kvs)) (eb : H b = some (.tup (k.map kV))) (ev : valV kvs k = some v) (q : Q v H) : rDG a (.ref b) H Q := by
  unfold rDG
  exact ⟨v, ev ▸ DGet.t e eb, q⟩
/- d.get(k, z) -/
@[irreducible] noncomputable def rIsD (a : Addr) (H : Hp) (P : Prop) : Prop := IsD H a ∧ P
@[irreducible] noncomputable def rDG2 (a : Addr) (y z : V) (H : Hp) (Q : VK) : Prop := ∃ o, DGet H a y o ∧ Q (o.getD z) H
noncomputable def rDG2V (x : V) (H : Hp) (P : Addr → Prop) : Prop := match x with
  | .ref a => rIsD a H (P a)
  | _ => False
noncomputable def tDG2 (td ty tx : TE) : TE := fun σ H Q => td σ H fun x H1 => rDG2V x H1 fun a => ty σ H1 fun y H2 => tx σ H2 fun z H3 => rDG2 a y z H3 Q
theorem tDG2_eq (td ty tx : TE) : tDG2 td ty tx = tDGet2 td ty tx := by
  funext σ H Q
  unfold tDG2 tDGet2
  congr 1; funext x H1
  unfold rDG2V rIsD rDG2
  apply propext
  cases x <;> first
    | (simp only [V.ref.injEq]; exact ⟨fun z => ⟨_, rfl, z⟩, fun ⟨a, e, z⟩ => e ▸ z⟩)
    | exact ⟨fun z => z.elim, fun ⟨a, e, _⟩ => nomatch e⟩
theorem peM_get2 {o e f : Expr} {td ty tx : TE} {apos cpos : Pos} (hu : X.A.units + 40 < cLine) (ho : PE X o td) (he : PE X e ty) (hf : PE X f tx)
    (m1 : attributeBase o "get" X.env (eval o X.env) = eval o X.env := by rfl)
    (m2 : ((backTo cpos (starEach [e, f] X.env)).all (fun x => !x.1) && (backToKw cpos (keywordEach [] X.env)).all (fun x => x.1.isSome) && decide (([e, f] : List Expr).length + ([] : List Keyword).length + (if ([] : List Keyword).isEmpty then 0 else 1) < 30)) = true := by rfl)
    (m3 : (apos.endLine == cpos.line) = true := by rfl) (m4 : backTo cpos (starEach [e, f] X.env) = [(false, eval e X.env), (false, eval f X.env)] := by rfl) : PE X (.Call (.Attribute o "get" apos) [e, f] [] cpos) (tDG2 td ty tx) :=
  tDG2_eq td ty tx ▸ pe_dget2 (by omega) ho he hf ⟨m1, m2, m3, m4⟩
theorem isdT_rd {a : Addr} {H : Hp} {P : Prop} {kvs : List (List Key × V)} (e : H a = some (.dT kvs)) (p : P) : rIsD a H P := by unfold rIsD; exact ⟨.inr ⟨kvs, .inl e⟩, p⟩
theorem dg2T_rd {a b : Addr} {z : V} {H : Hp} {Q : VK} {kvs : List (List Key × V)} {k : List Key} (e : H a = some (.dT kvs)) (eb : H b = some (.tup (k.map kV))) (q : Q ((valV kvs k).getD z) H) : rDG2 a (.ref b) z H Q := by
  unfold rDG2
  exact ⟨_, DGet.t e eb, q⟩
/- d[k] = v -/
@[irreducible] noncomputable def rDP (a : Addr) (y v : V) (H : Hp) (N : Hp → Prop) : Prop := ∃ H', DPut H a y v H' ∧ N H'
noncomputable def rDPV (x y v : V) (H : Hp) (N : Hp → Prop) : Prop := match x with
  | .ref a => rDP a y v H N
  | _ => False
noncomputable def sDP (td ty tv : TE) : TS := fun D σ H => tv σ H fun v H1 => td σ H1 fun x H2 => ty σ H2 fun y H3 => rDPV x y v H3 (D.nx σ)
theorem sDP_eq (td ty tv : TE) : sDP td ty tv = sDPut td ty tv := by
  funext D σ H
  unfold sDP sDPut
  congr 1; funext v H1; congr 1; funext x H2; congr 1; funext y H3
  unfold rDPV
  apply propext
  cases x <;> first
    | (simp only [V.ref.injEq]; unfold rDP; exact ⟨fun ⟨H', g, q⟩ => ⟨_, H', rfl, g, q⟩, fun ⟨a, H', e, g, q⟩ => ⟨H', e ▸ g, q⟩⟩)
    | exact ⟨fun z => z.elim, fun ⟨a, v, e, _⟩ => nomatch e⟩
theorem psDPut {o i value : Expr} {td ty tv : TE} {pos pos' : Pos} (hu : X.A.units + 40 < cLine) (ho : PE X o td) (hi : PE X i ty) (hv : PE X value tv) (hs : swapsWith value (some (.Subscript o i pos')) pos.line X.env = pure false := by rfl) :
    PS X (.Assign [.Subscript o i pos'] value pos) (sDP td ty tv) := sDP_eq td ty tv ▸ ps_dput (by omega) ho hi hv hs
theorem dpT_rd {a b : Addr} {v : V} {H : Hp} {N : Hp → Prop} {kvs : List (List Key × V)} {k : List Key} (e : H a = some (.dT kvs)) (eb : H b = some (.tup (k.map kV))) (hl : kvs.length < sizeLine) (q : ∀ H', Chg a H H' → H' a = some (.dT (putK kvs k v)) → N H') : rDP a (.ref b) v H N := by
  unfold rDP
  exact ⟨_, DPut.t e eb hl, q _ Chg.upd upd_same⟩
/- sorted(d) -/
/-- a key that is a pair of ints -/
noncomputable def pK (x : Int × Int) : List Key := [.inl x.1, .inl x.2]
theorem paired_at {α β : Type} {R : α → β → Prop} : ∀ {as : List α} {bs : List β}, Paired R as bs → ∀ (i : Nat) (a : α) (b : β), as[i]? = some a → bs[i]? = some b → R a b := by
  intro as bs h
  induction h with
  | nil => intro i a b e; simp at e
  | cons h1 _ ih =>
    intro i a b e1 e2
    cases i with
    | zero => simp at e1 e2; subst e1; subst e2; exact h1
    | succ j => simp at e1 e2; exact ih j a b e1 e2
theorem paired_of {α β : Type} {R : α → β → Prop} : ∀ {as : List α} {bs : List β}, as.length = bs.length → (∀ (i : Nat) (a : α) (b : β), as[i]? = some a → bs[i]? = some b → R a b) → Paired R as bs
  | [], [], _, _ => .nil
  | a :: as, b :: bs, hl, h => .cons (h 0 a b rfl rfl) (paired_of (Nat.succ.inj hl) fun i x y e1 e2 => h (i + 1) x y (by simpa using e1) (by simpa using e2))
end
end L2

set_option Elab.async false
set_option linter.all false
set_option maxRecDepth 100000
set_option maxHeartbeats 2000000
namespace L2
open PySem PySem.Spec PyProof.Rows PySem.W
/-! ### what a sort gives is in order -/
/-- an order that a sort may ask -/
structure Ord (lt : Nat → Nat → Bool) : Prop where
  as : ∀ i j, lt i j = true → lt j i = false
  tr : ∀ i j k, lt j i = false → lt k j = false → lt k i = false
section
variable {lt : Nat → Nat → Bool} {n : Nat}
noncomputable def gp (p : Array Nat) (i : Nat) : Nat := p.getD i 0
theorem gp_of {p q : Array Nat} {i j : Nat} (h : p[i]? = q[j]?) : gp p i = gp q j := by
  unfold gp
  rw [Array.getD_eq_getD_getElem?, Array.getD_eq_getD_getElem?, h]
theorem gp_rev {p : Array Nat} {i j : Nat} (hj : j ≤ p.size) (k : Nat) : gp (kas_rev p i j) k = if i ≤ k ∧ k < j then gp p (i + j - 1 - k) else gp p k := by
  have h := getElem?_mirror_all (xs := p) (i := i) hj k
  split
  · rename_i c; rw [if_pos c] at h; exact gp_of h
  · rename_i c; rw [if_neg c] at h; exact gp_of h
theorem gp_bub {p : Array Nat} {k l : Nat} (hk : k < p.size) (hl : l ≤ k) (i : Nat) : gp (bubble p k (k - l)) i = if i = l then gp p k else if l < i ∧ i ≤ k then gp p (i - 1) else gp p i := by
  have h := getElem?_bubble hk (k - l) (by omega) i
  rw [show k - (k - l) = l by omega] at h
  split
  · rename_i c; rw [if_pos c] at h; exact gp_of h
  · rename_i c
    rw [if_neg c] at h
    split
    · rename_i c2; rw [if_pos c2] at h; exact gp_of h
    · rename_i c2; rw [if_neg c2] at h; exact gp_of h
/-- in order up to k -/
noncomputable def Up (lt : Nat → Nat → Bool) (p : Array Nat) (k : Nat) : Prop := ∀ i j, i ≤ j → j < k → lt (gp p j) (gp p i) = false
/-- falling up to k -/
noncomputable def Dn (lt : Nat → Nat → Bool) (p : Array Nat) (k : Nat) : Prop := ∀ i j, i ≤ j → j < k → lt (gp p i) (gp p j) = false
theorem Ord.rf (O : Ord lt) (i : Nat) : lt i i = false := by
  cases h : lt i i with
  | false => rfl
  | true => exact absurd (O.as _ _ h) (by rw [h]; exact fun w => nomatch w)
theorem Up.snoc (O : Ord lt) {p : Array Nat} {k : Nat} (u : Up lt p k) (hk : 1 ≤ k) (h : lt (gp p k) (gp p (k - 1)) = false) : Up lt p (k + 1) := fun i j hij hj => by
  by_cases e : j = k
  · subst e
    by_cases e2 : i = j
    · subst e2; exact O.rf _
    · exact O.tr _ _ _ (u i (j - 1) (by omega) (by omega)) h
  · exact u i j hij (by omega)
theorem Dn.snoc (O : Ord lt) {p : Array Nat} {k : Nat} (u : Dn lt p k) (hk : 1 ≤ k) (h : lt (gp p (k - 1)) (gp p k) = false) : Dn lt p (k + 1) := fun i j hij hj => by
  by_cases e : j = k
  · subst e
    by_cases e2 : i = j
    · subst e2; exact O.rf _
    · exact O.tr _ _ _ h (u i (j - 1) (by omega) (by omega))
  · exact u i j hij (by omega)
/-- the state: a permutation -/
theorem Pm.size {p : Array Nat} (h : Pm n p) : p.size = n := by have := h.length_eq; rw [Array.length_toList, List.length_range] at this; exact this
theorem up_asc (O : Ord lt) (hn : 0 < n) {p : Array Nat} (h : Pm n p) : ∀ f m, 1 ≤ m → Up lt p m → KW lt n (fun r => m ≤ r ∧ r ≤ m + f ∧ Up lt p r ∧ (r < m + f → lt (gp p r) (gp p (r - 1)) = true)) (kas_asc p f m)
  | 0, m, _, u => ⟨Nat.le_refl _, Nat.le_refl _, u, fun z => absurd z (Nat.lt_irrefl _)⟩
  | f + 1, m, hm, u => by
    refine ⟨h.low hn _, h.low hn _, ?_⟩
    dsimp only
    cases e : lt (p.getD m 0) (p.getD (m - 1) 0) with
    | true => rw [if_pos rfl]; exact ⟨Nat.le_refl _, Nat.le_add_right _ _, u, fun _ => e⟩
    | false =>
      rw [if_neg (by decide)]
      exact KW.mono (fun r hr => ⟨by omega, by omega, hr.2.2.1, fun z => hr.2.2.2 (by omega)⟩) (up_asc O hn h f (m + 1) (by omega) (u.snoc O hm e))
/-- the last q + 1 are alike -/
noncomputable def Al (lt : Nat → Nat → Bool) (p : Array Nat) (m q : Nat) : Prop := ∀ i j, m - (q + 1) ≤ i → i ≤ j → j < m → lt (gp p j) (gp p i) = false
theorem Dn.al_rev (O : Ord lt) {p : Array Nat} {m q : Nat} (hm : m ≤ p.size) (hq : q + 1 ≤ m) (d : Dn lt p m) (al : Al lt p m q) : Dn lt (kas_rev p (m - (q + 1)) m) m := fun i j hij hj => by
  rw [gp_rev hm, gp_rev hm]
  by_cases ci : m - (q + 1) ≤ i ∧ i < m
  · rw [if_pos ci, if_pos ⟨by omega, hj⟩]
    exact al _ _ (by omega) (by omega) (by omega)
  · rw [if_neg ci]
    split
    · exact d i _ (by omega) (by omega)
    · exact d i j hij hj
theorem up_desc (O : Ord lt) (hn : 0 < n) : ∀ f (p : Array Nat) m q, Pm n p → m + f ≤ n → q + 1 ≤ m → Dn lt p m → Al lt p m q → KW lt n (fun r => Pm n r.1 ∧ m ≤ r.2.1 ∧ r.2.1 ≤ m + f ∧ r.2.2 + 1 ≤ r.2.1 ∧ Dn lt r.1 r.2.1 ∧ Al lt r.1 r.2.1 r.2.2) (kas_desc f p m q)
  | 0, p, m, q, h, hf, hq, d, al => ⟨h, Nat.le_refl _, Nat.le_refl _, hq, d, al⟩
  | f + 1, p, m, q, h, hf, hq, d, al => by
    have hz := h.size
    refine ⟨h.low hn _, h.low hn _, ?_⟩
    dsimp only
    cases e : lt (p.getD m 0) (p.getD (m - 1) 0) with
    | true =>
      rw [if_pos rfl]
      have al0 : ∀ p' : Array Nat, Al lt p' (m + 1) 0 := fun p' i j h1 h2 h3 => by
        have : i = j := by omega
        subst this; exact O.rf _
      split
      · rename_i q0
        refine KW.mono (fun r hr => ⟨hr.1, by omega, by omega, hr.2.2.2⟩) (up_desc O hn f _ (m + 1) 0 (h.rev _ _) (by omega) (by omega) ?_ (al0 _))
        refine (d.al_rev O (by omega) hq al).snoc O (by omega) ?_
        rw [gp_rev (by omega), gp_rev (by omega), if_pos (by omega), if_neg (by omega), show m - (q + 1) + m - 1 - (m - 1) = m - (q + 1) by omega]
        exact O.tr _ _ _ (O.as _ _ e) (d _ _ (by omega) (by omega))
      · exact KW.mono (fun r hr => ⟨hr.1, by omega, by omega, hr.2.2.2⟩) (up_desc O hn f p (m + 1) 0 h (by omega) (by omega) (d.snoc O (by omega) (O.as _ _ e)) (al0 _))
    | false =>
      rw [if_neg (by decide)]
      refine ⟨h.low hn _, h.low hn _, ?_⟩
      dsimp only
      cases e2 : lt (p.getD (m - 1) 0) (p.getD m 0) with
      | true => rw [if_pos rfl]; exact ⟨h, Nat.le_refl _, Nat.le_add_right _ _, hq, d, al⟩
      | false =>
        rw [if_neg (by decide)]
        refine KW.mono (fun r hr => ⟨hr.1, by omega, by omega, hr.2.2.2⟩) (up_desc O hn f p (m + 1) (q + 1) h (by omega) (by omega) (d.snoc O (by omega) e2) ?_)
        intro i j h1 h2 h3
        by_cases ej : j = m
        · subst ej
          by_cases ei : i = j
          · subst ei; exact O.rf _
          · exact O.tr _ _ _ (al i (j - 1) (by omega) (by omega) (by omega)) e
        · exact al i j (by omega) h2 (by omega)
theorem Dn.rev {p : Array Nat} {m : Nat} (hm : m ≤ p.size) (d : Dn lt p m) : Up lt (kas_rev p 0 m) m := fun i j hij hj => by
  rw [gp_rev hm, gp_rev hm, if_pos (by omega), if_pos (by omega)]
  exact d _ _ (by omega) (by omega)
theorem up_tail (O : Ord lt) (hn : 0 < n) {m : Nat} {p : Array Nat} (h : Pm n p) (hm : m ≤ n) (m1 : 1 ≤ m) (d : Dn lt p m) : KW lt n (fun x => Pm n x.2 ∧ 1 ≤ x.1 ∧ x.1 ≤ n ∧ Up lt x.2 x.1) (kas_tail3 m n p) :=
  KW.bd (KW.mono (fun r hr => ⟨h.rev 0 m, by omega, by omega, hr.2.2.1⟩) (up_asc O hn (h.rev 0 m) (n - m) m m1 (d.rev (by rw [h.size]; exact hm))))
theorem up_part (O : Ord lt) (hn : 0 < n) {m : Nat} {p : Array Nat} (h : Pm n p) (hm : m + 1 ≤ n) (d : Dn lt p (m + 1)) : KW lt n (fun x => Pm n x.2 ∧ 1 ≤ x.1 ∧ x.1 ≤ n ∧ Up lt x.2 x.1) (kas_descPart m n p) := by
  refine KW.bd (KW.mono (fun r hr => ?_) (up_desc O hn (n - (m + 1)) p (m + 1) 0 h (by omega) (by omega) d fun i j h1 h2 h3 => ?_))
  · obtain ⟨r1, r2, r3, r4, r5, r6⟩ := hr
    split
    · exact up_tail O hn (r1.rev _ _) (by omega) (by omega) (r5.al_rev O (by rw [Pm.size r1]; omega) r4 r6)
    · exact up_tail O hn r1 (by omega) (by omega) r5
  · have : i = j := by omega
    subst this; exact O.rf _
theorem up_count (O : Ord lt) (hn : 0 < n) {p : Array Nat} (h : Pm n p) : KW lt n (fun x => Pm n x.2 ∧ 1 ≤ x.1 ∧ x.1 ≤ n ∧ Up lt x.2 x.1) (kas_count n p) := by
  have u1 : Up lt p 1 := fun i j h1 h2 => by
    have : i = j := by omega
    subst this; exact O.rf _
  refine KW.bd (KW.mono (fun r hr => ?_) (up_asc O hn h (n - 1) 1 (Nat.le_refl _) u1))
  obtain ⟨r1, r2, r3, r4⟩ := hr
  by_cases c : (r == n) = true
  · rw [if_pos c]
    exact ⟨h, r1, by omega, r3⟩
  · rw [if_neg c]
    have rn : r < n := by
      have : r ≠ n := fun z => c (by rw [z]; exact beq_self_eq_true n)
      omega
    by_cases c2 : r > 1
    · rw [if_pos c2]
      refine ⟨h.low hn _, h.low hn _, ?_⟩
      dsimp only
      cases e : lt (p.getD 0 0) (p.getD (r - 1) 0) with
      | true => rw [if_pos rfl]; exact ⟨h, r1, by omega, r3⟩
      | false =>
        rw [if_neg (by decide)]
        have hz : r ≤ p.size := by rw [Pm.size h]; omega
        have st := r4 (by omega)
        refine up_part O hn (h.rev 0 r) (by omega) (Dn.snoc O (fun i j hij hj => ?_) (by omega) ?_)
        · rw [gp_rev hz, gp_rev hz, if_pos (by omega), if_pos (by omega)]
          exact r3 _ _ (by omega) (by omega)
        · rw [gp_rev hz, gp_rev hz, if_pos (by omega), if_neg (by omega), show 0 + r - 1 - (r - 1) = 0 by omega]
          exact O.tr _ _ _ (O.as _ _ st) e
    · rw [if_neg c2]
      have r0 : r = 1 := by omega
      subst r0
      have st := r4 (by omega)
      exact up_part O hn h (by omega) (Dn.snoc O (fun i j hij hj => by
        have : i = j := by omega
        subst this; exact O.rf _) (Nat.le_refl _) (O.as _ _ st))
theorem up_place (O : Ord lt) (hn : 0 < n) {p : Array Nat} (h : Pm n p) (k : Nat) (u : Up lt p k) : ∀ f l r, l ≤ r → r ≤ k → r ≤ l + f → (∀ i, i < l → lt (gp p k) (gp p i) = false) → (∀ i, r ≤ i → i < k → lt (gp p k) (gp p i) = true) →
    KW lt n (fun x => x ≤ k ∧ (∀ i, i < x → lt (gp p k) (gp p i) = false) ∧ ∀ i, x ≤ i → i < k → lt (gp p k) (gp p i) = true) (kas_place p k f l r)
  | 0, l, r, h1, h2, h3, a, b => by
    have : r = l := by omega
    subst this
    exact ⟨h2, a, b⟩
  | f + 1, l, r, h1, h2, h3, a, b => by
    unfold kas_place
    by_cases c : l ≥ r
    · rw [if_pos c]
      have : r = l := by omega
      subst this
      exact ⟨h2, a, b⟩
    · rw [if_neg c]
      refine ⟨h.low hn _, h.low hn _, ?_⟩
      dsimp only
      cases e : lt (p.getD k 0) (p.getD ((l + r) / 2) 0) with
      | true =>
        rw [if_pos rfl]
        refine up_place O hn h k u f l ((l + r) / 2) (by omega) (by omega) (by omega) a fun i hi hk => ?_
        cases e2 : lt (gp p k) (gp p i) with
        | true => rfl
        | false =>
          have := O.tr _ _ _ (u ((l + r) / 2) i hi hk) (show lt (gp p k) (gp p i) = false from e2)
          rw [show lt (gp p k) (gp p ((l + r) / 2)) = true from e] at this
          cases this
      | false =>
        rw [if_neg (by decide)]
        refine up_place O hn h k u f ((l + r) / 2 + 1) r (by omega) h2 (by omega) (fun i hi => ?_) b
        exact O.tr _ _ _ (u i ((l + r) / 2) (by omega) (by omega)) e
theorem up_bub (O : Ord lt) {p : Array Nat} {k l : Nat} (hk : k < p.size) (u : Up lt p k) (hl : l ≤ k) (a : ∀ i, i < l → lt (gp p k) (gp p i) = false) (b : ∀ i, l ≤ i → i < k → lt (gp p k) (gp p i) = true) : Up lt (bubble p k (k - l)) (k + 1) := fun i j hij hj => by
  rw [gp_bub hk hl, gp_bub hk hl]
  by_cases ci : i = l
  · rw [if_pos ci]
    by_cases cj : j = l
    · rw [if_pos cj]; exact O.rf _
    · rw [if_neg cj, if_pos (by omega)]
      exact O.as _ _ (b (j - 1) (by omega) (by omega))
  · rw [if_neg ci]
    by_cases cj : j = l
    · rw [if_pos cj, if_neg (by omega)]
      exact a i (by omega)
    · rw [if_neg cj]
      by_cases di : l < i ∧ i ≤ k
      · rw [if_pos di, if_pos (by omega)]
        exact u _ _ (by omega) (by omega)
      · rw [if_neg di]
        by_cases dj : l < j ∧ j ≤ k
        · rw [if_pos dj]
          exact u _ _ (by omega) (by omega)
        · rw [if_neg dj]
          exact u _ _ hij (by omega)
theorem up_bin (O : Ord lt) (hn : 0 < n) : ∀ f (p : Array Nat) k, Pm n p → k + f = n → Up lt p k → KW lt n (fun p' => Pm n p' ∧ Up lt p' n) (kas_bin f p k)
  | 0, p, k, h, e, u => by
    have : k = n := by omega
    subst this
    exact ⟨h, u⟩
  | f + 1, p, k, h, e, u => by
    refine KW.bd (KW.mono (fun l hl => ?_) (up_place O hn h k u k 0 k (Nat.zero_le _) (Nat.le_refl _) (by omega) (fun i hi => absurd hi (Nat.not_lt_zero _)) fun i h1 h2 => absurd h2 (by omega)))
    exact up_bin O hn f _ (k + 1) (h.bub _ _) (by omega) (up_bub O (by rw [Pm.size h]; omega) u hl.1 hl.2.1 hl.2.2)
theorem up_sort (O : Ord lt) (hn : 0 < n) : KW lt n (fun p => Pm n p ∧ Up lt p n) (kas_sort n) := by
  have h0 : Pm n (List.toArray (List.range n)) := List.Perm.refl _
  refine KW.bd (KW.mono (fun r hr => ?_) (up_count O hn h0))
  obtain ⟨r1, r2, r3, r4⟩ := hr
  by_cases c : r.1 < n
  · rw [if_pos c, show max r.1 1 = r.1 by omega]
    exact up_bin O hn _ _ _ r1 (by omega) r4
  · rw [if_neg c]
    have e : r.1 = n := by omega
    exact ⟨r1, e ▸ r4⟩
end
end L2

set_option Elab.async false
set_option linter.all false
set_option maxRecDepth 100000
set_option maxHeartbeats 2000000
namespace L2
open PySem PySem.Spec PyProof.Rows PySem.W
/-! ### sorted(d) in order -/
theorem ltP_iff {x y : Int × Int} : ltP x y = true ↔ x.1 < y.1 ∨ (x.1 = y.1 ∧ x.2 < y.2) := by
  unfold ltP
  by_cases e : x.1 = y.1
  · rw [if_pos (beq_iff_eq.mpr e)]
    by_cases e2 : x.2 = y.2
    · rw [if_pos (beq_iff_eq.mpr e2)]
      exact ⟨(fun h => by cases h), fun h => by omega⟩
    · rw [if_neg (fun h => e2 (beq_iff_eq.mp h)), decide_eq_true_iff]
      exact ⟨fun h => .inr ⟨e, h⟩, fun h => by omega⟩
  · rw [if_neg (fun h => e (beq_iff_eq.mp h)), decide_eq_true_iff]
    exact ⟨fun h => .inl h, fun h => by omega⟩
theorem ltP_not {x y : Int × Int} : ltP x y = false ↔ ¬ (x.1 < y.1 ∨ (x.1 = y.1 ∧ x.2 < y.2)) := by
  rw [← ltP_iff]
  cases ltP x y <;> simp
theorem ord_P (xs : Nat → Int × Int) : Ord (fun i j => ltP (xs i) (xs j)) where
  as := fun i j h => by
    have h := ltP_iff.mp h
    exact ltP_not.mpr (by omega)
  tr := fun i j k h1 h2 => by
    have h1 := ltP_not.mp h1
    have h2 := ltP_not.mp h2
    exact ltP_not.mpr (by omega)
section
variable {prog : Program} {w : World} {A : Around} {E : Value → Shared → Prop} {s : Shared}
theorem sort_tupO {D : Addr} {vs : List Value} {xs : Nat → Int × Int} {P : PySem.Fin → Shared → Prop} (ho : s.heap.get? D = some (seqObj "list" vs.toArray 0)) (h64 : vs.length < 64)
    (H : ∀ i, i < vs.length → TupI s.heap (vs.getD i Value.none) (xs i))
    (h : ∀ (p : List Nat) (c : Nat) (hF : Heap), p.Perm (List.range vs.length) → p.Pairwise (fun i j => ltP (xs j) (xs i) = false) → (∀ b o, b ≠ D → s.heap.get? b = some o → hF.get? b = some o) → hF.get? D = some (seqObj "list" (List.toArray (p.map fun i => vs.getD i Value.none)) c) → P (.done (.ret .none)) { s with heap := hF }) :
    wpAny (model prog w) A (Builtin.«list.sort» ⟨[.ref D], []⟩) P E s := by
  by_cases h2 : vs.length < 2
  · refine sort_few ho h2 ?_
    obtain ⟨c, hc⟩ := sorted_at (vs := vs) (out := vs.toArray) ho
    refine h (List.range vs.length) c _ (List.Perm.refl _) ?_ (fun b o ne e => sorted_old ne e) ?_
    · have : vs.length = 0 ∨ vs.length = 1 := by omega
      rcases this with e | e <;> rw [e]
      · exact List.Pairwise.nil
      · exact List.pairwise_singleton _ _
    · rw [hc]
      have e : (List.range vs.length).map (fun i => vs.getD i Value.none) = vs := by
        apply List.ext_getElem (by simp)
        intro i h1 h2
        simp at h1 h2
        simp [h2]
      rw [e]
  · have old : ∀ v, v ∈ vs → ∃ i, i < vs.length ∧ vs.getD i Value.none = v := fun v hv => by
      obtain ⟨i, hi, e⟩ := List.mem_iff_getElem.mp hv
      exact ⟨i, hi, by simp [hi, e]⟩
    have nD : ∀ {v : Value} {x : Int × Int}, TupI s.heap v x → TupI (midH s.heap D vs) v x := fun {v x} z => by
      obtain ⟨a, o, t, u, n, e, e1, e2, e3⟩ := z
      refine ⟨a, o, t, u, n, e, mid_old (fun q => ?_) e1, e2, e3⟩
      rw [q, ho] at e1
      cases e1
      have e2' : Value.type "list" = Value.type "tuple" := e2
      exact absurd e2' (by decide)
    refine sort_kw (κ := tuples' true) (lt := fun i j => ltP (xs i) (xs j)) ho (by omega) h64 (fun Q q => kind_tupI (s := { s with heap := midH s.heap D vs }) (fun v hv => ?_) (by omega) q) (fun i j C li lj q => lt_tupI (s := { s with heap := midH s.heap D vs }) (nD (H i li)) (nD (H j lj)) q) (up_sort (ord_P xs) (by omega)) fun p pz pR => ?_
    · obtain ⟨i, hi, rfl⟩ := old v hv
      exact ⟨_, nD (H i hi)⟩
    · obtain ⟨c, hc⟩ := sorted_at (vs := vs) (out := List.toArray (p.toList.map fun i => vs.getD i Value.none)) ho
      refine h p.toList c _ pR.1 ?_ (fun b o ne e => sorted_old ne e) hc
      rw [List.pairwise_iff_getElem]
      intro i j hi hj hij
      rw [Array.length_toList] at hi hj
      have := pR.2 i j (Nat.le_of_lt hij) (by omega)
      unfold gp at this
      simpa [Array.getD, hi, hj] using this
theorem sorted_rawO {d : Addr} {es : Array DictEntry} {ep : Nat} {xs : Nat → Int × Int} {Q : Value → Shared → Prop} (lo : (d == sysModules) = false) (hh : A.handled = none) (x : RawD s.heap d es ep) (h64 : es.size < 64)
    (H : ∀ i e, es[i]? = some e → TupI s.heap e.key (xs i))
    (h : ∀ (h1 hF : Heap) (tk c : Nat) (p : List Nat) (vs : List Value), (∀ b o, s.heap.get? b = some o → h1.get? b = some o) → (∀ b o, h1.get? b = some o → hF.get? b = some o) → p.Perm (List.range es.size) → p.Pairwise (fun i j => ltP (xs j) (xs i) = false) → vs = es.toList.map (·.key) →
      hF.get? h1.objs.size = some (seqObj "list" (List.toArray (p.map fun i => vs.getD i Value.none)) c) → Q (.ref h1.objs.size) { s with heap := hF, toks := tk }) :
    wpAny (model prog w) A (call (.builtin "sorted") [.ref d]) Q E s := by
  have zl : es.size ≤ sizeLine := by rw [sizeLine_eq]; omega
  refine Calls.call_function_entry kind_sorted plain_sorted entry_sorted (args_sorted1 _) ?_
  unfold Builtin.«sorted»
  refine wpAny_bind (m := checkCount "sorted" 1 1 _) (wpAny_pure (wpAny_bind (kdu_collect (A := A.in1) (src_raw lo) hh x zl fun h1 tk acc k1 it => ?_)))
  have len : acc.toList.length = es.size := by rw [Array.length_toList]; exact it.1
  have ev : acc.toList = es.toList.map (·.key) := by
    apply List.ext_getElem (by rw [len, List.length_map, Array.length_toList])
    intro i a1 a2
    rw [Array.length_toList] at a1
    obtain ⟨e, e1, e2⟩ := it.2 i acc[i] (by simp [a1])
    simp only [Array.getElem_toList, List.getElem_map]
    rw [e2]
    obtain ⟨q1, q2⟩ := Array.getElem?_eq_some_iff.mp e1
    rw [← q2]
  refine wpAny_bind (wpAny_newList ?_ (by rw [len]; exact zl))
  have hD : (h1.push (seqObj "list" acc.toList.toArray 0)).get? h1.objs.size = some (seqObj "list" acc.toList.toArray 0) := Heap.get?_push_size _ rfl
  show wpAny (model prog w) _ _ _ _ { s with heap := h1.push (seqObj "list" acc.toList.toArray 0), toks := tk }
  refine wpAny_bind (wpAny_holding (wpAny_call_entry slot_list_sort ⟨_, hD, rfl⟩ entry_list_sort (sort_tupO (xs := xs) (s := { s with heap := h1.push (seqObj "list" acc.toList.toArray 0), toks := tk }) hD (by rw [len]; exact h64) (fun i hi => ?_) fun p c hF pp po kF eF => ⟨_, rfl, ?_⟩) (args_list_sort _)))
  · rw [len] at hi
    have z := (H i es[i] (by simp [hi])).to k1
    have e : acc.toList.getD i Value.none = es[i].key := by rw [ev]; simp [hi]
    rw [e]
    exact z.to fun b o q => Heap.get?_push_of_some _ q
  · refine wpAny_pure ⟨_, rfl, h h1 hF tk c p acc.toList k1 (fun b o e => kF b o (Nat.ne_of_lt (Heap.lt_size e)) (Heap.get?_push_of_some _ e)) (by rw [← len]; exact pp) po ev eF⟩
end
section
variable {X : Cx} {K : PySem.W.Frag}
/-- the ordered keys, none twice -/
noncomputable def OrdK (ks : List (Int × Int)) : Prop := ks.Nodup ∧ ks.Pairwise (fun x y => ltP x y = true)
@[irreducible] noncomputable def rSoO (a : Addr) (H : Hp) (Q : VK) : Prop := ∃ kvs : List ((Int × Int) × V), H a = some (.dT (kvs.map fun z => (pK z.1, z.2))) ∧ kvs.length < 64 ∧
  ∀ p H' (bs : List Addr) (ks : List (Int × Int)), H p = none → Same H H' → ks.Perm (kvs.map (·.1)) → OrdK ks → Paired (fun b x => H' b = some (.tup [.int x.1, .int x.2])) bs ks → H' p = some (.lst (bs.map V.ref)) → Q (.ref p) H'
noncomputable def rSoOM : List V → Hp → VK → Prop := fun xs H Q => match xs with
  | [.ref p] => rSoO p H Q
  | _ => False
theorem soO_rd {a : Addr} {H : Hp} {Q : VK} {kvs : List ((Int × Int) × V)} (h : H a = some (.dT (kvs.map fun z => (pK z.1, z.2)))) (hl : kvs.length < 64)
    (q : ∀ p H' (bs : List Addr) (ks : List (Int × Int)), H p = none → Same H H' → ks.Perm (kvs.map (·.1)) → OrdK ks → Paired (fun b x => H' b = some (.tup [.int x.1, .int x.2])) bs ks → H' p = some (.lst (bs.map V.ref)) → Q (.ref p) H') : rSoO a H Q := by unfold rSoO; exact ⟨kvs, h, hl, q⟩
theorem ordK_of {ks : List (Int × Int)} (nd : ks.Nodup) (h : ks.Pairwise (fun x y => ltP y x = false)) : OrdK ks := by
  refine ⟨nd, ?_⟩
  refine List.Pairwise.imp (fun {x y} z => ?_) (List.Pairwise.and nd h)
  have z2 := ltP_not.mp z.2
  refine ltP_iff.mpr ?_
  have ne : ¬ (x.1 = y.1 ∧ x.2 = y.2) := fun w => z.1 (Prod.ext w.1 w.2)
  omega
theorem cSortO (hc : X.calm = true) : CallR X (.builtin "sorted") rSoOM := fun pins s σ H xs us Q I r h => by
  unfold rSoOM at h
  split at h
  · rename_i p
    unfold rSoO at h
    obtain ⟨kvs, h1, h2, h3⟩ := h
    obtain ⟨u1, rfl, rx⟩ := vals1 r
    cases rx
    obtain ⟨zl, lo, ys, kt, o, es, ep, e1, e2, e3, e4, e5⟩ := dt_of I.hok h1
    have lk : ys.length = kvs.length := by have := Paired.length kt; rw [List.length_map] at this; exact this.symm
    have le : es.size = kvs.length := by rw [← Array.length_toList, e4, List.length_map, lk]
    have at_ : ∀ i, (hi : i < kvs.length) → ∃ b v, ys[i]? = some (pK kvs[i].1, b, v) ∧ H b = some (.tup [.int kvs[i].1.1, .int kvs[i].1.2]) := fun i hi => by
      have hy : i < ys.length := lk ▸ hi
      have z := paired_at kt i (pK kvs[i].1, kvs[i].2) ys[i] (by simp [hi]) (by simp [hy])
      refine ⟨ys[i].2.1, ys[i].2.2, ?_, z.2.1⟩
      rw [List.getElem?_eq_getElem hy]
      have z1 : pK kvs[i].1 = ys[i].1 := z.1
      rw [z1]
    have ke : ∀ i e, es[i]? = some e → ∃ hi : i < kvs.length, ∃ b v, ys[i]? = some (pK kvs[i].1, b, v) ∧ e.key = .ref b ∧ H b = some (.tup [.int kvs[i].1.1, .int kvs[i].1.2]) := fun i e q => by
      obtain ⟨q1, q2⟩ := Array.getElem?_eq_some_iff.mp q
      have hi : i < kvs.length := le ▸ q1
      obtain ⟨b, v, y1, y2⟩ := at_ i hi
      refine ⟨hi, b, v, y1, ?_, y2⟩
      rw [← Array.getElem?_toList, e4, List.getElem?_map, y1] at q
      simp only [Option.map_some, Option.some.injEq] at q
      rw [← q]; rfl
    refine sorted_rawO (xs := fun i => ((kvs.map (·.1))[i]?).getD (0, 0)) lo (I.ok.hd hc) (d := p) (es := es) (ep := ep) ⟨o, e1, e2, e3⟩ (by omega) (fun i e q => ?_) fun h' hF tk c pm vs k1 kF pp po ev eF => ?_
    · obtain ⟨hi, b, v, _, q2, q3⟩ := ke i e q
      obtain ⟨_, its, rv, ob, b1, b2, n, b3⟩ := (show ObjOk X.prog X.w H s.heap b (.tup [.int kvs[i].1.1, .int kvs[i].1.2]) from I.hok b _ q3)
      obtain ⟨v1, v2, rfl, w1, w2⟩ := vals2 rv
      obtain ⟨t1, rfl⟩ := w1
      obtain ⟨t2, rfl⟩ := w2
      have ex : ((kvs.map (·.1))[i]?).getD (0, 0) = kvs[i].1 := by simp [hi]
      rw [ex, q2]
      exact ⟨b, ob, t1, t2, n, rfl, b1, b2, b3⟩
    · have hp : p < s.heap.objs.size := Heap.lt_size e1
      have I1 : Inv X pins σ H { s with heap := h', toks := tk } := I.kept k1
      have fr : H h'.objs.size = none := I1.fresh
      let as : List Addr := pm.map fun i => ((ys[i]?).map (·.2.1)).getD 0
      have mem : ∀ i, i ∈ pm → i < kvs.length := fun i hi => by have := List.mem_range.mp (pp.mem_iff.mp hi); omega
      have vals : (pm.map fun i => vs.getD i Value.none) = as.map Value.ref := by
        rw [List.map_map]
        refine List.map_congr_left fun i hi => ?_
        have hi' := mem i hi
        have hes : i < es.size := by omega
        obtain ⟨_, b, v, y1, y2, _⟩ := ke i es[i] (by simp [hes])
        rw [ev]
        simp [hes, y1, y2]
      have rl : Vals (as.map V.ref) (as.map Value.ref) := by
        generalize as = l
        induction l with
        | nil => exact .nil
        | cons a l ih => exact .cons rfl ih
      have lz : as.length ≤ sizeLine := by
        show (pm.map _).length ≤ _
        rw [List.length_map, pp.length_eq, List.length_range, sizeLine_eq]; omega
      refine ⟨.ref _, _, I1.laid (h' := hF) (t' := tk) (o := .lst (as.map V.ref)) kF (Nat.le_refl _) ?_, rfl, h3 _ _ as (pm.map fun i => ((kvs.map (·.1))[i]?).getD (0, 0)) fr (Same.upd fr) ?_ (ordK_of ?_ ?_) ?_ upd_same⟩
      · exact ⟨by rw [List.length_map]; exact lz, as.map Value.ref, c, rl, by rw [eF, vals]⟩
      · have e : (List.range kvs.length).map (fun i => ((kvs.map (·.1))[i]?).getD (0, 0)) = kvs.map (·.1) := by
          apply List.ext_getElem (by simp)
          intro i a1 a2
          simp at a1
          simp [a1]
        have q := (show pm.Perm (List.range kvs.length) from le ▸ pp).map fun i => ((kvs.map (·.1))[i]?).getD (0, 0)
        rw [e] at q
        exact q
      · have e : (List.range kvs.length).map (fun i => ((kvs.map (·.1))[i]?).getD (0, 0)) = kvs.map (·.1) := by
          apply List.ext_getElem (by simp)
          intro i a1 a2
          simp at a1
          simp [a1]
        have q := (show pm.Perm (List.range kvs.length) from le ▸ pp).map fun i => ((kvs.map (·.1))[i]?).getD (0, 0)
        rw [e] at q
        refine q.nodup_iff.mpr ?_
        have nk : ((kvs.map fun z => (pK z.1, z.2)).map (·.1)).Nodup := by
          have : (kvs.map fun z => (pK z.1, z.2)).map (·.1) = ys.map (·.1) := by
            apply List.ext_getElem (by rw [List.length_map, List.length_map, List.length_map, lk])
            intro i a1 a2
            rw [List.length_map, List.length_map] at a1
            obtain ⟨b, v, y1, _⟩ := at_ i a1
            have hy : i < ys.length := lk ▸ a1
            rw [List.getElem?_eq_getElem hy] at y1
            simp only [List.getElem_map]
            rw [Option.some.inj y1]
          rw [this]; exact e5.2
        rw [List.map_map] at nk
        have : (kvs.map (Prod.fst ∘ fun z => (pK z.1, z.2))) = (kvs.map (·.1)).map pK := by rw [List.map_map]; rfl
        rw [this] at nk
        exact List.Pairwise.of_map pK (fun a b h e => h (by rw [e])) nk
      · rw [List.pairwise_map]
        exact po
      · refine paired_of (by rw [List.length_map, List.length_map]) fun i a x q1 q2 => ?_
        rw [List.getElem?_map] at q1 q2
        obtain ⟨j, j1, j2⟩ := Option.map_eq_some_iff.mp q1
        rw [j1] at q2
        have hj := mem j (List.mem_of_getElem? j1)
        obtain ⟨b, v, y1, y2⟩ := at_ j hj
        rw [y1] at j2
        have j3 : b = a := j2
        have ex : kvs[j].1 = x := by simpa [hj] using q2
        rw [← j3, ← ex]
        exact (Same.upd fr) b _ y2
  · exact h.elim
end
end L2

set_option Elab.async false
set_option linter.all false
set_option maxRecDepth 100000
set_option maxHeartbeats 4000000
namespace L2
open PySem PySem.Spec PyProof.Rows
/-! ### isinstance(e, (C, D)) of what was caught -/
section
variable {X : Cx} {K : PySem.W.Frag} {H : Hp} {Q : VK}
/-- a caught exception of the class D -/
noncomputable def ExA (H : Hp) (e D : Addr) : Prop := H e = some (excO e (.ref D) none) ∨ ∃ d fs, H e = some (excO e (.ref D) (some d)) ∧ H d = some (.xd fs)
theorem ExA.same {H H' : Hp} {e D : Addr} (x : ExA H e D) (s : Same H H') : ExA H' e D := by
  rcases x with x | ⟨d, fs, x, y⟩
  · exact .inl (s _ _ x)
  · exact .inr ⟨d, fs, s _ _ x, s _ _ y⟩
end
/-! ### try: y = ['..', f(..)] -/
section
variable {X : Cx} {pins : List (Addr × Obj)} {σ : St} {H : Hp} {s : Shared}
end
end L2

set_option Elab.async false
set_option linter.all false
set_option maxRecDepth 100000
set_option maxHeartbeats 4000000
namespace L2
open PySem PySem.Spec PyProof.Rows
/-! ### str(x) of a list, a tuple -/
mutual
inductive ShV (H : Hp) : V → PyData → Prop
  | non : ShV H .non .none
  | bl (b : Bool) : ShV H (.bl b) (.bool b)
  | int (i : Int) : ShV H (.int i) (.int i)
  | str (x : Str) : ShV H (.str x) (.str x)
  | lst {a : Addr} {xs : List V} {ds : List PyData} : H a = some (.lst xs) → ShL H xs ds → ShV H (.ref a) (.list ds)
  | tup {a : Addr} {xs : List V} {ds : List PyData} : H a = some (.tup xs) → ShL H xs ds → ShV H (.ref a) (.tuple ds)
inductive ShL (H : Hp) : List V → List PyData → Prop
  | nil : ShL H [] []
  | cons {x : V} {d : PyData} {xs : List V} {ds : List PyData} : ShV H x d → ShL H xs ds → ShL H (x :: xs) (d :: ds)
end
section
variable {X : Cx} {pins : List (Addr × Obj)} {σ : St} {H H' : Hp} {s : Shared} {Q : VK}
mutual
theorem ShV.same {v : V} {d : PyData} (h : ShV H v d) (k : Same H H') : ShV H' v d := match h with
  | .non => .non
  | .bl b => .bl b
  | .int i => .int i
  | .str x => .str x
  | .lst e l => .lst (k _ _ e) (l.same k)
  | .tup e l => .tup (k _ _ e) (l.same k)
theorem ShL.same {xs : List V} {ds : List PyData} (h : ShL H xs ds) (k : Same H H') : ShL H' xs ds := match h with
  | .nil => .nil
  | .cons a b => .cons (a.same k) (b.same k)
end
theorem ShL.len {xs : List V} {ds : List PyData} (h : ShL H xs ds) : xs.length = ds.length := match h with
  | .nil => rfl
  | .cons _ b => by rw [List.length_cons, List.length_cons, b.len]
mutual
theorem ShV.reads (I : Inv X pins σ H s) {v : V} {d : PyData} {u : Value} (h : ShV H v d) (r : RelV v u) : ∃ as, Reads s.heap u d as := match h with
  | .non => by cases (show u = Value.none from r); exact ⟨_, .none⟩
  | .bl b => by cases (show u = Value.bool b from r); exact ⟨_, .bool b⟩
  | .int i => by obtain ⟨t, q⟩ := (show ∃ t, u = Value.int i t from r); cases q; exact ⟨_, .int i t⟩
  | .str x => by obtain ⟨t, q⟩ := (show ∃ t, u = Value.str x t from r); cases q; exact ⟨_, .str x t⟩
  | .lst (a := a) (xs := xs) e l => by
    cases (show u = Value.ref a from r)
    obtain ⟨_, us, n, rv, h1⟩ := (show ObjOk X.prog X.w H s.heap a (.lst xs) from I.hok a _ e)
    obtain ⟨as, ra⟩ := l.reads I rv
    exact ⟨_, .list h1 rfl rfl (by simpa using ra)⟩
  | .tup (a := a) (xs := xs) e l => by
    cases (show u = Value.ref a from r)
    obtain ⟨_, us, rv, o, h1, h2, n, h3⟩ := (show ObjOk X.prog X.w H s.heap a (.tup xs) from I.hok a _ e)
    obtain ⟨as, ra⟩ := l.reads I rv
    exact ⟨_, .tuple h1 h2 h3 (by simpa using ra)⟩
theorem ShL.reads (I : Inv X pins σ H s) {xs : List V} {ds : List PyData} {us : List Value} (h : ShL H xs ds) (r : Vals xs us) : ∃ as, ReadsAll s.heap us ds as := match h, r with
  | .nil, .nil => ⟨_, .nil⟩
  | .cons a b, .cons r1 r2 => by
    obtain ⟨as, ra⟩ := a.reads I r1
    obtain ⟨bs, rb⟩ := b.reads I r2
    exact ⟨_, .cons ra rb⟩
end
/-- what can be shown: its depth, its length -/
structure Shows (d : PyData) (k m : Nat) : Prop where
  ok : d.showable = true
  nd : d.hasDict = false
  dp : d.depth ≤ k
  ln : d.shown.length ≤ m
theorem Shows.up {d : PyData} {k m k' m' : Nat} (h : Shows d k m) (h1 : k ≤ k') (h2 : m ≤ m') : Shows d k' m' := ⟨h.ok, h.nd, Nat.le_trans h.dp h1, Nat.le_trans h.ln h2⟩
theorem all_show {k m : Nat} : ∀ {ds : List PyData}, (∀ d ∈ ds, Shows d k m) → PyData.showableAll ds = true ∧ PyData.hasDictAll ds = false ∧ PyData.depthAll ds ≤ k ∧ piled (PyData.shownAll ds) ≤ ds.length * (m + 2)
  | [], _ => ⟨rfl, rfl, Nat.zero_le _, by simp [PyData.shownAll, piled]⟩
  | d :: ds, h => by
    have h0 := h d (.head _)
    obtain ⟨a1, a2, a3, a4⟩ := all_show (ds := ds) fun x hx => h x (.tail _ hx)
    refine ⟨by simp [PyData.showableAll, h0.ok, a1], by simp [PyData.hasDictAll, h0.nd, a2], ?_, ?_⟩
    · have := h0.dp
      simp only [PyData.depthAll]
      omega
    · have := h0.ln
      simp only [PyData.shownAll, piled_cons, List.length_cons, Nat.succ_mul]
      omega
theorem textFrom_le : ∀ (ts : List Str) (k : Nat) (acc : Str), (textFrom k acc ts).length ≤ acc.length + piled ts
  | [], _, acc => by simp [textFrom, piled]
  | t :: ts, k, acc => by
    have ih := textFrom_le ts (k + 1) (acc ++ (if k > 0 then ", " else "" : String) ++ t)
    have e : (acc ++ (if k > 0 then ", " else "" : String) ++ t).length = acc.length + (if k > 0 then 2 else 0) + t.length := by
      rw [strLen_append, strLen_append]
      congr 2
      split <;> rfl
    rw [piled_cons]
    show (textFrom (k + 1) _ ts).length ≤ _
    rw [e] at ih
    have e2 : (if k > 0 then 2 else 0) ≤ 2 := by split <;> omega
    omega
theorem Shows.list {ds : List PyData} {k m : Nat} (h : ∀ d ∈ ds, Shows d k m) : Shows (.list ds) (k + 1) (ds.length * (m + 2) + 2) := by
  obtain ⟨a1, a2, a3, a4⟩ := all_show h
  refine ⟨by simpa [PyData.showable] using a1, by simpa [PyData.hasDict] using a2, by simp only [PyData.depth]; omega, ?_⟩
  have := textFrom_le (PyData.shownAll ds) 0 "["
  have e1 : ((("[" : String) : Str)).length = 1 := rfl
  have e2 : ((("]" : String) : Str)).length = 1 := rfl
  simp only [PyData.shown, listText, strLen_append]
  omega
theorem Shows.tuple {ds : List PyData} {k m : Nat} (h : ∀ d ∈ ds, Shows d k m) : Shows (.tuple ds) (k + 1) (ds.length * (m + 2) + 4) := by
  obtain ⟨a1, a2, a3, a4⟩ := all_show h
  refine ⟨by simpa [PyData.showable] using a1, by simpa [PyData.hasDict] using a2, by simp only [PyData.depth]; omega, ?_⟩
  have e1 : ((("(" : String) : Str)).length = 1 := rfl
  have e3 : ((if (PyData.shownAll ds).length == 1 then ",)" else ")" : String) : Str).length ≤ 2 := by split <;> decide
  have e4 : (Str.join ", " (PyData.shownAll ds)).length ≤ piled (PyData.shownAll ds) := by
    by_cases z : PyData.shownAll ds = []
    · rw [z]; decide
    · have := join_length_add _ z; omega
  simp only [PyData.shown, tupleText, strLen_append]
  omega
theorem Shows.int {i : Int} (h : -(10 ^ 100) ≤ i) (h' : i ≤ 10 ^ 100) : Shows (.int i) 0 1921 := by
  have hl : i.natAbs.log2 < 1920 := by
    by_cases z : i.natAbs = 0
    · rw [z]; decide
    · rw [Nat.log2_lt z]
      have h1 : i.natAbs ≤ 10 ^ 100 := by omega
      exact Nat.lt_of_le_of_lt h1 (by decide +kernel)
  exact ⟨by simpa [PyData.showable] using hl, rfl, by simp [PyData.depth], by simpa only [PyData.shown] using PyProof.Rows.int_text_len_1921 hl⟩
theorem Shows.bl {b : Bool} : Shows (.bool b) 0 5 := by cases b <;> exact ⟨rfl, rfl, by simp [PyData.depth], by decide⟩
theorem Shows.str {x : Str} {m : Nat} (h : (reprText x).length ≤ m) : Shows (.str x) 0 m := ⟨rfl, rfl, by simp [PyData.depth], h⟩
/-- a list whose parts are shown -/
theorem ShL.of {xs : List V} (f : V → PyData) (h : ∀ x ∈ xs, ShV H x (f x)) : ShL H xs (xs.map f) := by
  induction xs with
  | nil => exact .nil
  | cons x xs ih => exact .cons (h x (.head _)) (ih fun y hy => h y (.tail _ hy))
end
end L2

set_option Elab.async false
set_option linter.all false
set_option maxRecDepth 100000
set_option maxHeartbeats 4000000
namespace L2
open PySem PySem.Spec PyProof.Rows
/-! ### things of any kind: what can be read of the heap as data -/
mutual
noncomputable def sml : PyData → Bool
  | .none | .bool _ | .int _ | .str _ => true
  | .list xs | .tuple xs => decide (xs.length ≤ 1000) && smlAll xs
  | .dict _ => false
noncomputable def smlAll : List PyData → Bool
  | [] => true
  | x :: xs => sml x && smlAll xs
end
theorem smlAll_of : ∀ {ds : List PyData}, (∀ d ∈ ds, sml d = true) → smlAll ds = true
  | [], _ => rfl
  | d :: ds, h => by simp [smlAll, h d (.head _), smlAll_of fun x hx => h x (.tail _ hx)]
theorem smlAll_mem : ∀ {ds : List PyData}, smlAll ds = true → ∀ d ∈ ds, sml d = true
  | [], _, d, h => by cases h
  | x :: ds, h, d, hd => by
    simp only [smlAll, Bool.and_eq_true] at h
    rcases List.mem_cons.mp hd with rfl | hd
    · exact h.1
    · exact smlAll_mem h.2 d hd
section
variable {H H' : Hp} {K : PySem.W.Frag} {Q : VK}
theorem ShL.idx : ∀ {xs : List V} {ds : List PyData}, xs.length = ds.length → (∀ (i : Nat) x d, xs[i]? = some x → ds[i]? = some d → ShV H x d) → ShL H xs ds
  | [], [], _, _ => .nil
  | [], _ :: _, h, _ => by simp at h
  | _ :: _, [], h, _ => by simp at h
  | x :: xs, d :: ds, h, k => .cons (k 0 x d rfl rfl) (ShL.idx (by simpa using h) fun i y e h1 h2 => k (i + 1) y e (by simpa using h1) (by simpa using h2))
theorem ShL.get : ∀ {xs : List V} {ds : List PyData} (_ : ShL H xs ds) (i : Nat) (x : V), xs[i]? = some x → ∃ d, ds[i]? = some d ∧ ShV H x d
  | _, _, .nil, i, x, e => by simp at e
  | _, _, .cons a b, 0, x, e => by cases (show some _ = some x from e); exact ⟨_, rfl, a⟩
  | _, _, .cons a b, i + 1, x, e => by
    obtain ⟨d, e1, e2⟩ := ShL.get b i x (by simpa using e)
    exact ⟨d, by simpa using e1, e2⟩
theorem ShL.ex {P : PyData → Prop} : ∀ {xs : List V}, (∀ x ∈ xs, ∃ d, ShV H x d ∧ P d) → ∃ ds, ShL H xs ds ∧ ∀ d ∈ ds, P d
  | [], _ => ⟨[], .nil, fun _ h => by cases h⟩
  | x :: xs, h => by
    obtain ⟨d, h1, h2⟩ := h x (.head _)
    obtain ⟨ds, h3, h4⟩ := ShL.ex (xs := xs) fun y hy => h y (.tail _ hy)
    refine ⟨d :: ds, .cons h1 h3, fun e he => ?_⟩
    rcases List.mem_cons.mp he with rfl | he
    · exact h2
    · exact h4 e he
/-- readable: as data, small, with a text of at most m signs -/
noncomputable def Rda (H : Hp) (v : V) (k m : Nat) : Prop := ∃ d, ShV H v d ∧ sml d = true ∧ Shows d k m
theorem Rda.same {v : V} {k m : Nat} (h : Rda H v k m) (s : Same H H') : Rda H' v k m := by obtain ⟨d, h1, h2, h3⟩ := h; exact ⟨d, h1.same s, h2, h3⟩
theorem Rda.up {v : V} {k m k' m' : Nat} (h : Rda H v k m) (h1 : k ≤ k' := by omega) (h2 : m ≤ m' := by omega) : Rda H v k' m' := by obtain ⟨d, a, b, c⟩ := h; exact ⟨d, a, b, c.up h1 h2⟩
theorem Rda.int {i : Int} (h : -(10 ^ 100) ≤ i) (h' : i ≤ 10 ^ 100) : Rda H (.int i) 0 1921 := ⟨_, .int i, rfl, Shows.int h h'⟩
theorem Rda.bl {b : Bool} : Rda H (.bl b) 0 1921 := ⟨_, .bl b, rfl, Shows.bl.up (by omega) (by omega)⟩
theorem Rda.lst {a : Addr} {xs : List V} {k m : Nat} (e : H a = some (.lst xs)) (l : xs.length ≤ 1000) (h : ∀ x ∈ xs, Rda H x k m) : Rda H (.ref a) (k + 1) (xs.length * (m + 2) + 4) := by
  obtain ⟨ds, h1, h2⟩ := ShL.ex (P := fun d => sml d = true ∧ Shows d k m) h
  have hl := h1.len
  refine ⟨.list ds, .lst e h1, ?_, ?_⟩
  · simp only [sml, Bool.and_eq_true, decide_eq_true_eq]
    exact ⟨by omega, smlAll_of fun d hd => (h2 d hd).1⟩
  · have := Shows.list (ds := ds) (k := k) (m := m) fun d hd => (h2 d hd).2
    rw [hl]
    exact this.up (Nat.le_refl _) (by omega)
theorem Rda.tup {a : Addr} {xs : List V} {k m : Nat} (e : H a = some (.tup xs)) (l : xs.length ≤ 1000) (h : ∀ x ∈ xs, Rda H x k m) : Rda H (.ref a) (k + 1) (xs.length * (m + 2) + 4) := by
  obtain ⟨ds, h1, h2⟩ := ShL.ex (P := fun d => sml d = true ∧ Shows d k m) h
  have hl := h1.len
  refine ⟨.tuple ds, .tup e h1, ?_, ?_⟩
  · simp only [sml, Bool.and_eq_true, decide_eq_true_eq]
    exact ⟨by omega, smlAll_of fun d hd => (h2 d hd).1⟩
  · have := Shows.tuple (ds := ds) (k := k) (m := m) fun d hd => (h2 d hd).2
    rw [hl]
    exact this
/-! isinstance of any thing -/
noncomputable def isD (n : String) : PyData → Bool
  | .none => false
  | .bool _ => n == "bool" || n == "int"
  | .int _ => n == "int"
  | .str _ => n == "str"
  | .list _ => n == "list"
  | .tuple _ => n == "tuple"
  | .dict _ => n == "dict"
theorem isiD_rd' {v : V} {d : PyData} {n : String} (h : ShV H v d) (hn : n = "int" ∨ n = "bool" ∨ n = "list" ∨ n = "tuple") (q : Q (.bl (isD n d)) H) : rIsiA K v (.ty n) H Q := by
  rcases hn with rfl | rfl | rfl | rfl <;> cases h
  all_goals first
    | exact isiN_rd q (by rfl)
    | exact isiB_rd q (by rfl)
    | exact isiI_rd q (by rfl)
    | exact isiS_rd q (by rfl)
    | (rename_i e l; exact isiL_rd e q (by rfl))
    | (rename_i e l; exact isiT_rd e q (by rfl))
end
end L2

set_option Elab.async false
set_option linter.all false
set_option maxRecDepth 100000
set_option maxHeartbeats 4000000
namespace L2
open PySem PySem.Spec PyProof.Rows
/-! ### x in a list or a tuple of flat things -/
section
variable {X : Cx} {K : PySem.W.Frag} {H : Hp} {Q : VK}
@[irreducible] noncomputable def rInA (K : PySem.W.Frag) (neg : Bool) (x : V) (p : Addr) (H : Hp) (Q : VK) : Prop := ∃ xs, (SqL K H p xs ∨ SqT K H p xs) ∧ flatV x = true ∧ xs.all flatV = true ∧ Q (.bl (if neg then !inV x xs else inV x xs)) H
noncomputable def rInM (K : PySem.W.Frag) (neg : Bool) : R2 := fun x y H Q => match y with
  | .ref p => rInA K neg x p H Q
  | _ => False
theorem oInK (hK : X.K = K) : OpR X (compareOp .In) (rInM K false) := by
  subst hK
  intro pins s σ H x y v u Q I rx ry h
  unfold rInM at h
  split at h
  · unfold rInA at h
    obtain ⟨xs, h1, h2, h3, h4⟩ := h
    exact op_in_seq pins s σ H _ _ v u Q I rx ry ⟨_, xs, rfl, h1, h2, h3, h4⟩
  · exact h.elim
theorem oNotInK (hK : X.K = K) : OpR X (compareOp .NotIn) (rInM K true) := by
  subst hK
  intro pins s σ H x y v u Q I rx ry h
  unfold rInM at h
  split at h
  · unfold rInA at h
    obtain ⟨xs, h1, h2, h3, h4⟩ := h
    exact op_notIn_seq pins s σ H _ _ v u Q I rx ry ⟨_, xs, rfl, h1, h2, h3, h4⟩
  · exact h.elim
theorem inT_rd {x : V} {p : Addr} {xs : List V} (h : SqT K H p xs) (h1 : flatV x = true) (h2 : xs.all flatV = true) (q : Q (.bl (inV x xs)) H) : rInA K false x p H Q := by unfold rInA; exact ⟨xs, .inr h, h1, h2, q⟩
theorem notInL_rd {x : V} {p : Addr} {xs : List V} (h : SqL K H p xs) (h1 : flatV x = true) (h2 : xs.all flatV = true) (q : Q (.bl (!inV x xs)) H) : rInA K true x p H Q := by unfold rInA; exact ⟨xs, .inl h, h1, h2, q⟩
theorem inV_false (bs : List Bool) : inV (.bl false) (bs.map V.bl) = !(bs.all id) := by
  induction bs with
  | nil => rfl
  | cons b bs ih =>
    have : inV (.bl false) ((b :: bs).map V.bl) = (eqV (.bl b) (.bl false) || inV (.bl false) (bs.map V.bl)) := rfl
    rw [this, ih, List.all_cons]
    cases b <;> simp [eqV, id]
theorem flat_bls (bs : List Bool) : (bs.map V.bl).all flatV = true := by
  rw [List.all_map]
  exact List.all_eq_true.mpr fun _ _ => rfl
/-! ### str of any thing -/
noncomputable def strD : PyData → Str
  | .str x => x
  | d => d.shown
@[irreducible] noncomputable def rStrA (x : V) (H : Hp) (Q : VK) : Prop := ∃ d : PyData, ShV H x d ∧ Shows d 20 16000000 ∧ Q (.str (strD d)) H
noncomputable def rStrAM : List V → Hp → VK → Prop := fun xs H Q => match xs with
  | [x] => rStrA x H Q
  | _ => False
theorem cStrA {j : Nat} (hr : Room j X.A) : CallR X (.type "str") rStrAM := fun pins s σ H xs us Q I r h => by
  unfold rStrAM at h
  split at h
  · unfold rStrA at h
    obtain ⟨d, hv, hs, q⟩ := h
    obtain ⟨u, rfl, r1⟩ := vals1 r
    have := hr.un
    have hd := hs.dp
    cases hv with
    | non => cases (show u = Value.none from r1); exact P.str_of_none ⟨.str _, H, I.tok _, ⟨_, rfl⟩, q⟩
    | bl b => cases (show u = Value.bool b from r1); exact P.str_of_bool ⟨.str _, H, I.tok _, ⟨_, rfl⟩, q⟩
    | int i =>
      obtain ⟨t, e⟩ := (show ∃ t, u = Value.int i t from r1)
      cases e
      have ok : decide (i.natAbs.log2 < 1920) = true := hs.ok
      exact P.str_of_int (of_decide_eq_true ok) ⟨.str _, H, I.tok _, ⟨_, rfl⟩, q⟩
    | str x =>
      obtain ⟨t, e⟩ := (show ∃ t, u = Value.str x t from r1)
      cases e
      exact P.str_of_str ⟨.str x, H, I, ⟨_, rfl⟩, q⟩
    | @lst a xs ds e l =>
      cases (show u = Value.ref a from r1)
      obtain ⟨as, rd⟩ := (ShV.lst e l).reads I rfl
      exact str_of_reads (h₀ := s.heap) rd hs.ok (fun z => by rw [hs.nd] at z; cases z) hr.gd (by omega) (fun _ _ e => e) (fun h' u tk hk => ⟨.str _, H, I.kept hk, ⟨_, rfl⟩, q⟩) (Nat.le_trans hs.ln (by decide))
    | @tup a xs ds e l =>
      cases (show u = Value.ref a from r1)
      obtain ⟨as, rd⟩ := (ShV.tup e l).reads I rfl
      exact str_of_reads (h₀ := s.heap) rd hs.ok (fun z => by rw [hs.nd] at z; cases z) hr.gd (by omega) (fun _ _ e => e) (fun h' u tk hk => ⟨.str _, H, I.kept hk, ⟨_, rfl⟩, q⟩) (Nat.le_trans hs.ln (by decide))
  · exact h.elim
theorem strA_rd {x : V} {d : PyData} (h : ShV H x d) (hs : Shows d 20 16000000) (q : Q (.str (strD d)) H) : rStrA x H Q := by unfold rStrA; exact ⟨d, h, hs, q⟩
end
end L2

set_option Elab.async false
set_option linter.all false
set_option maxRecDepth 100000
set_option maxHeartbeats 4000000
namespace L2
open PySem PySem.Spec PyProof.Rows PySem.W
/-! ### dicts with ints for keys -/
section
variable {X : Cx} {K : PySem.W.Frag} {H : Hp} {Q : VK}
/- {}: of either kind -/
@[irreducible] noncomputable def rDNE (H : Hp) (Q : VK) : Prop := (∀ p H', H p = none → Same H H' → H' p = some (.dT []) → Q (.ref p) H') ∨ ∀ p H', H p = none → Same H H' → H' p = some (.dK []) → Q (.ref p) H'
noncomputable def tDNE : TE := fun _ H Q => rDNE H Q
theorem peDNewE {pos : Pos} : PE X (.Dict [] [] pos) tDNE := fun pins s σ H Q I h => by
  unfold tDNE rDNE at h
  rcases h with h | h
  · exact pe_dnewT (pos := pos) pins s σ H Q I fun p hp => h p _ hp (Same.upd hp) upd_same
  · exact pe_dnewK (pos := pos) pins s σ H Q I fun p hp => h p _ hp (Same.upd hp) upd_same
theorem dnT_rd (q : ∀ p H', H p = none → Same H H' → H' p = some (.dT []) → Q (.ref p) H') : rDNE H Q := by unfold rDNE; exact .inl q
/- ints under ints -/
noncomputable def dI (kv : List (Int × Int)) : List (Key × V) := kv.map fun z => (.inl z.1, .int z.2)
noncomputable def valI (kv : List (Int × Int)) (i : Int) : Option Int := (kv.find? fun z => decide (z.1 = i)).map (·.2)
theorem valV_dI (i : Int) : ∀ kv : List (Int × Int), valV (dI kv) (.inl i) = (valI kv i).map V.int
  | [] => rfl
  | z :: kv => by
    by_cases e : z.1 = i
    · show valV (((.inl z.1 : Key), V.int z.2) :: dI kv) (.inl i) = _
      rw [valV_pos (by exact congrArg Sum.inl e)]
      unfold valI
      rw [List.find?_cons, decide_eq_true e]; rfl
    · show valV (((.inl z.1 : Key), V.int z.2) :: dI kv) (.inl i) = _
      rw [valV_neg (by exact fun q => e (Sum.inl.inj q)), valV_dI i kv]
      unfold valI
      rw [List.find?_cons, decide_eq_false e]
noncomputable def eqDI (ka kb : List (Int × Int)) : Bool := ka.length == kb.length && ka.all fun z => valI kb z.1 == some z.2
theorem hits_dI {A : Around} {s : Shared} {kb : List (Int × Int)} {ws : List (Key × Value)} (rb : KV (dI kb) ws) : ∀ {ka : List (Int × Int)} {vs : List (Key × Value)}, KV (dI ka) vs → KeqHits A s ws vs (ka.all fun z => valI kb z.1 == some z.2)
  | [], vs, r => by
    unfold KV dI at r
    cases r
    exact .nil
  | z :: ka, vs, r => by
    unfold KV dI at r
    rw [List.map_cons] at r
    cases r with
    | @cons p q ps qs h t =>
      obtain ⟨h1, h2⟩ := h
      obtain ⟨k, v⟩ := q
      cases (show (Sum.inl z.1 : Key) = k from h1)
      have val := rb.val (.inl z.1)
      rw [valV_dI] at val
      rw [List.all_cons]
      cases e : valI kb z.1 with
      | none =>
        rw [e] at val
        have : valueAt ws (.inl z.1) = none := by
          cases w : valueAt ws (.inl z.1) with
          | none => rfl
          | some y => rw [w] at val; exact val.elim
        have f : ((none : Option Int) == some z.2) = false := rfl
        rw [f, Bool.false_and]
        exact .miss this
      | some n =>
        rw [e] at val
        obtain ⟨y, ey, ry⟩ : ∃ y, valueAt ws (.inl z.1) = some y ∧ RelV (.int n) y := by
          cases w : valueAt ws (.inl z.1) with
          | none => rw [w] at val; exact val.elim
          | some y => rw [w] at val; exact ⟨y, rfl, val⟩
        have q := eqAt_V (A := A) (s := s) (show RelV (.int z.2) v from h2) ry rfl rfl
        have e2 : eqV (.int z.2) (.int n) = (some n == some z.2) := by
          by_cases d : z.2 = n
          · subst d; simp [eqV]
          · have d' : ¬ n = z.2 := fun x => d x.symm
            show (z.2 == n) = (some n == some z.2)
            rw [beq_eq_false_iff_ne.mpr d]
            exact (beq_eq_false_iff_ne.mpr fun x => d' (Option.some.inj x)).symm
        rw [e2] at q
        exact .hit ey q (hits_dI rb t)
/-! ### == of lists and tuples, of dicts of ints, of things of any kind -/
@[irreducible] noncomputable def rEqX (K : PySem.W.Frag) (x y : V) (H : Hp) (Q : VK) : Prop :=
  (∃ a b n c, x = .ref a ∧ y = .ref b ∧ n ≤ 40 ∧ EqR K H n (.ref a) (.ref b) c ∧ Q (.bl c) H) ∨
  (∃ a b ka kb, x = .ref a ∧ y = .ref b ∧ H a = some (.dK (dI ka)) ∧ H b = some (.dK (dI kb)) ∧ Q (.bl (eqDI ka kb)) H) ∨
  ∃ d e, ShV H x d ∧ ShV H y e ∧ d.canLay0 = true ∧ e.canLay0 = true ∧ d.depth ≤ 40 ∧ Q (.bl (PyData.eqv d e)) H
noncomputable def rEqXM (K : PySem.W.Frag) : R2 := fun x y H Q => match x, y with
  | .int i, .int j => Q (.bl (decide (i = j))) H
  | .bl i, .bl j => Q (.bl (decide (i = j))) H
  | .str i, .str j => Q (.bl (decide (i = j))) H
  | x, y => rEqX K x y H Q
noncomputable def rNeXM (K : PySem.W.Frag) : R2 := fun x y H Q => rEqXM K x y H fun v H' => match v with
  | .bl b => Q (.bl (!b)) H'
  | _ => False
theorem oEqX (hu : X.A.units + 40 < cLine) : OpR X (compareOp .Eq) (rEqXM X.K) := by
  intro pins s σ H x y v u Q I rx ry h
  unfold rEqXM at h
  split at h
  · exact op_eq pins s σ H _ _ v u Q I rx ry ⟨rfl, by rw [dec_inj (f := V.int) fun a b e => V.int.inj e]; exact h⟩
  · exact op_eq pins s σ H _ _ v u Q I rx ry ⟨rfl, by rw [dec_inj (f := V.bl) fun a b e => V.bl.inj e]; exact h⟩
  · exact op_eq pins s σ H _ _ v u Q I rx ry ⟨rfl, by rw [dec_inj (f := V.str) fun a b e => V.str.inj e]; exact h⟩
  · unfold rEqX at h
    rcases h with ⟨a, b, n, c, rfl, rfl, hn, h1, h2⟩ | ⟨a, b, ka, kb, rfl, rfl, ea, eb, h⟩ | ⟨d, e, hd, he, cd, ce, dd, h⟩
    · cases rx
      cases ry
      exact EqR.rc I h1 (A := X.A) (by omega) _ _ _ _ ⟨.bl c, H, I, rfl, h2⟩
    · cases rx
      cases ry
      obtain ⟨_, sa, vs, ra, da⟩ := dk_of I.hok ea
      obtain ⟨_, sb, ws, rb, db⟩ := dk_of I.hok eb
      refine keq_eq sa sb da db (by omega) (fun _ => hits_dI rb ra) ⟨.bl (eqDI ka kb), H, I, ?_, h⟩
      have la : vs.length = ka.length := by rw [← ra.length]; unfold dI; rw [List.length_map]
      have lb : ws.length = kb.length := by rw [← rb.length]; unfold dI; rw [List.length_map]
      rw [la, lb]
      rfl
    · obtain ⟨as, r1⟩ := hd.reads I rx
      obtain ⟨bs, r2⟩ := he.reads I ry
      exact SeqAt.compareEq_reads r1 r2 cd ce (by have := Nat.min_le_left d.depth e.depth; omega) ⟨.bl (PyData.eqv d e), H, I, rfl, h⟩
theorem oNeX (hu : X.A.units + 40 < cLine) : OpR X (compareOp .NotEq) (rNeXM X.K) := by
  intro pins s σ H x y v u Q I rx ry h
  unfold rNeXM rEqXM at h
  split at h
  · exact op_ne pins s σ H _ _ v u Q I rx ry ⟨rfl, by rw [dec_inj (f := V.int) fun a b e => V.int.inj e]; exact h⟩
  · exact op_ne pins s σ H _ _ v u Q I rx ry ⟨rfl, by rw [dec_inj (f := V.bl) fun a b e => V.bl.inj e]; exact h⟩
  · exact op_ne pins s σ H _ _ v u Q I rx ry ⟨rfl, by rw [dec_inj (f := V.str) fun a b e => V.str.inj e]; exact h⟩
  · unfold rEqX at h
    rcases h with ⟨a, b, n, c, rfl, rfl, hn, h1, h2⟩ | ⟨a, b, ka, kb, rfl, rfl, ea, eb, h⟩ | ⟨d, e, hd, he, cd, ce, dd, h⟩
    · cases rx
      cases ry
      exact EqR.rcNe I h1 (A := X.A) (by omega) _ _ _ _ ⟨.bl (!c), H, I, rfl, h2⟩
    · cases rx
      cases ry
      obtain ⟨_, sa, vs, ra, da⟩ := dk_of I.hok ea
      obtain ⟨_, sb, ws, rb, db⟩ := dk_of I.hok eb
      refine keq_ne sa sb da db (by omega) (fun _ => hits_dI rb ra) ⟨.bl (!eqDI ka kb), H, I, ?_, h⟩
      have la : vs.length = ka.length := by rw [← ra.length]; unfold dI; rw [List.length_map]
      have lb : ws.length = kb.length := by rw [← rb.length]; unfold dI; rw [List.length_map]
      rw [la, lb]
      rfl
    · obtain ⟨as, r1⟩ := hd.reads I rx
      obtain ⟨bs, r2⟩ := he.reads I ry
      exact SeqAt.compareNe_reads r1 r2 cd ce (by have := Nat.min_le_left d.depth e.depth; omega) ⟨.bl (!PyData.eqv d e), H, I, rfl, h⟩
theorem eqX_rd {a b : Addr} {n : Nat} {c : Bool} (h : EqR K H n (.ref a) (.ref b) c) (q : Q (.bl c) H) (hn : n ≤ 40 := by decide) : rEqX K (.ref a) (.ref b) H Q := by unfold rEqX; exact .inl ⟨a, b, n, c, rfl, rfl, hn, h, q⟩
theorem eqS_rd {x y : V} {d e : PyData} (hd : ShV H x d) (he : ShV H y e) (cd : d.canLay0 = true) (ce : e.canLay0 = true) (dd : d.depth ≤ 40) (q : Q (.bl (PyData.eqv d e)) H) : rEqX K x y H Q := by unfold rEqX; exact .inr (.inr ⟨d, e, hd, he, cd, ce, dd, q⟩)
end
end L2

set_option Elab.async false
set_option linter.all false
set_option maxRecDepth 100000
set_option maxHeartbeats 4000000
namespace L2
open PySem PySem.Spec PyProof.Rows PySem.W
/-! ### < of two pairs of ints -/
section
variable {prog : Program} {w : World} {A : Around} {E : Value → Shared → Prop} {s : Shared}
end
section
variable {X : Cx} {K : PySem.W.Frag} {H : Hp} {Q : VK}
noncomputable def pV (x : Int × Int) : List V := [.int x.1, .int x.2]
@[irreducible] noncomputable def rLtA (a b : Addr) (H : Hp) (Q : VK) : Prop := ∃ x y : Int × Int, H a = some (.tup (pV x)) ∧ H b = some (.tup (pV y)) ∧ Q (.bl (ltP x y)) H
noncomputable def rLtXM : R2 := fun x y H Q => match x, y with
  | .int i, .int j => Q (.bl (decide (i < j))) H
  | .ref a, .ref b => rLtA a b H Q
  | _, _ => False
/-! ### a slice of a list or of a tuple -/
@[irreducible] noncomputable def rSlX (K : PySem.W.Frag) (a : Addr) (lo hi : Option Int) (H : Hp) (Q : VK) : Prop := (∃ xs, SqL K H a xs ∧ ∀ p H', H p = none → Same H H' → H' p = some (.lst (cutV xs lo hi)) → Q (.ref p) H') ∨
  ∃ xs, SqT K H a xs ∧ ¬ (HT.sIx xs.length 0 lo = 0 ∧ HT.sIx xs.length xs.length hi = xs.length) ∧ ∀ p H', H p = none → Same H H' → H' p = some (.tup (cutV xs lo hi)) → Q (.ref p) H'
noncomputable def rSlXM (K : PySem.W.Frag) : V → Option Int → Option Int → Hp → VK → Prop := fun x lo hi H Q => match x with
  | .ref a => rSlX K a lo hi H Q
  | _ => False
theorem slX : SlR X (rSlXM X.K) := by
  intro pins s σ H x v vl vu lo hi sl Q I rx hs pl pu h
  unfold rSlXM at h
  split at h
  · unfold rSlX at h
    rcases h with ⟨xs, h1, q⟩ | ⟨xs, h1, h2, q⟩
    · exact sl_list pins s σ H _ v vl vu lo hi sl Q I rx hs pl pu ⟨_, xs, rfl, h1, fun p hp => q p _ hp (Same.upd hp) upd_same⟩
    · exact sl_tup pins s σ H _ v vl vu lo hi sl Q I rx hs pl pu ⟨_, xs, rfl, h1, h2, fun p hp => q p _ hp (Same.upd hp) upd_same⟩
  · exact h.elim
theorem slL_rd {a : Addr} {xs : List V} {lo hi : Option Int} (h : SqL K H a xs) (q : ∀ p H', H p = none → Same H H' → H' p = some (.lst (cutV xs lo hi)) → Q (.ref p) H') : rSlX K a lo hi H Q := by unfold rSlX; exact .inl ⟨xs, h, q⟩
theorem oEqXK (hK : X.K = K) (hu : X.A.units + 40 < cLine) : OpR X (compareOp .Eq) (rEqXM K) := by subst hK; exact oEqX hu
theorem oNeXK (hK : X.K = K) (hu : X.A.units + 40 < cLine) : OpR X (compareOp .NotEq) (rNeXM K) := by subst hK; exact oNeX hu
/-! ### is and is not of bools and of None -/
noncomputable def rIsXM : R2 := fun x y H Q => match x, y with
  | .bl i, .bl j => Q (.bl (decide (i = j))) H
  | x, .non => Q (.bl (decide (x = .non))) H
  | _, _ => False
theorem same_bools (i j : Bool) : isSame (.bool i) (.bool j) = pure (decide (i = j)) := by cases i <;> cases j <;> rfl
theorem oIsX : OpR X (compareOp .Is) rIsXM := by
  intro pins s σ H x y v u Q I rx ry h
  unfold rIsXM at h
  split at h
  · rename_i i j
    cases (show v = Value.bool i from rx)
    cases (show u = Value.bool j from ry)
    show wpAny _ _ (isSame (.bool i) (.bool j) >>= fun b => pure (Value.bool b)) _ _ s
    rw [same_bools]
    exact wpAny_bind (wpAny_pure (wpAny_pure ⟨.bl (decide (i = j)), H, I, rfl, h⟩))
  · exact op_isN pins s σ H _ _ v u Q I rx ry ⟨rfl, h⟩
  · exact h.elim
end
end L2

set_option Elab.async false
set_option linter.all false
set_option maxRecDepth 100000
set_option maxHeartbeats 4000000
namespace L2
open PySem PySem.Spec PyProof.Rows PySem.W
/-! ### several statements in a try: what raises has stored nothing ahead of it -/
section
variable {X : Cx}
end
/-! ### + of lists, of tuples -/
section
variable {X : Cx} {K : PySem.W.Frag} {H : Hp} {Q : VK}
end
end L2

set_option Elab.async false
set_option linter.all false
set_option maxRecDepth 100000
set_option maxHeartbeats 2000000
namespace L2
open PySem PySem.Spec PyProof.Rows
/-! ### xs.insert(0, v), xs.pop(i) -/
section
variable {X : Cx} {K : PySem.W.Frag}
end
end L2

set_option Elab.async false
set_option linter.all false
set_option maxRecDepth 100000
set_option maxHeartbeats 4000000
namespace L2
open PySem PySem.Spec PyProof.Rows PySem.W
/-! ### >= of two pairs of ints -/
section
variable {prog : Program} {w : World} {A : Around} {E : Value → Shared → Prop} {s : Shared}
end
section
variable {X : Cx} {K : PySem.W.Frag} {H : Hp} {Q : VK}
end
end L2
namespace L2
end L2

set_option Elab.async false
set_option linter.all false
set_option maxRecDepth 100000
set_option maxHeartbeats 2000000
namespace L2
open PySem PySem.Spec PyProof.Rows PySem.W
section
variable {X : Cx} {K : PySem.W.Frag}
/-! ### max of a list of ints -/
end
/-! ### reversed(range(n)) -/
section
variable {prog : Program} {w : World} {A : Around} {E : Value → Shared → Prop} {s : Shared}
end
section
variable {X : Cx} {K : PySem.W.Frag} {tg : Expr}
end
end L2

set_option Elab.async false
set_option linter.all false
set_option maxRecDepth 100000
set_option maxHeartbeats 2000000
namespace L2
open PySem PySem.Spec PyProof.Rows PySem.W
section
variable {X : Cx} {K : PySem.W.Frag}
/-! ### xs[i] op= e -/
end
/-! ### comprehensions over a list whose elements change things -/
section
variable {K : PySem.W.Frag} {g : TG} {tt : TT} {te : TE} {σ0 : St} {H1 : Hp} {Q : VK}
end
end L2

set_option Elab.async false
set_option linter.all false
set_option maxRecDepth 100000
set_option maxHeartbeats 2000000
namespace L2
open PySem PySem.Spec PyProof.Rows PySem.W
/-! ### for x in reversed(xs) -/
section
variable {X : Cx} {K : PySem.W.Frag} {tg : Expr}
end
section
variable {K : PySem.W.Frag} {g : TG} {tb : TS} {D : Ends} {σ : St} {H : Hp}
end
end L2

set_option Elab.async false
set_option linter.all false
set_option maxRecDepth 100000
set_option maxHeartbeats 2000000
namespace L2
open PySem PySem.Spec PyProof.Rows PySem.W
/-! ### list(reversed(xs)) -/
section
variable {prog : Program} {w : World} {A : Around} {E : Value → Shared → Prop} {s : Shared}
end
section
variable {X : Cx} {K : PySem.W.Frag}
end
end L2

set_option Elab.async false
set_option linter.all false
set_option maxRecDepth 100000
set_option maxHeartbeats 4000000
namespace L2
open PySem PySem.Spec PyProof.Rows
/-! ### x in a list of lists -/
section
variable {X : Cx} {K : PySem.W.Frag} {H : Hp} {Q : VK}
noncomputable def eRef (c : Addr → Bool) : Value → Bool
  | .ref a => c a
  | _ => false
theorem vals_refs : ∀ {rs : List Addr} {us : List Value}, Vals (rs.map V.ref) us → us = rs.map Value.ref
  | [], us, h => by cases h; rfl
  | r :: rs, us, h => by
    cases h with
    | cons h1 h2 =>
      have h1 : _ = Value.ref r := h1
      rw [List.map_cons, ← vals_refs h2, h1]
end
/-! ### for x, y, z in zip(xs, ys, zs) -/
section
variable {K : PySem.W.Frag} {g : TG} {tb : TS} {D : Ends} {σ : St} {H : Hp} {R : It → Hp → Prop}
end
end L2

set_option Elab.async false
set_option linter.all false
set_option maxRecDepth 100000
set_option maxHeartbeats 4000000
namespace L2
open PySem PySem.Spec PyProof.Rows
/-! ### a set's table: where a search goes -/
noncomputable abbrev Pb := SetTable.Probe
noncomputable def advM (mask : Nat) (p : Pb) : Pb :=
  if p.more > 0 then { j := p.j + 1, more := p.more - 1, i := p.i, perturb := p.perturb, dummy := p.dummy }
  else { j := (SetTable.leap mask p.i p.perturb).1, more := SetTable.runEnd mask (SetTable.leap mask p.i p.perturb).1 - (SetTable.leap mask p.i p.perturb).1, i := (SetTable.leap mask p.i p.perturb).1, perturb := (SetTable.leap mask p.i p.perturb).2, dummy := p.dummy }
noncomputable def runS (mask : Nat) (a : Nat × Nat) : Pb := { j := a.1, more := SetTable.runEnd mask a.1 - a.1, i := a.1, perturb := a.2, dummy := none }
noncomputable def stp (mask : Nat) (h : Int) : Nat → Pb
  | 0 => runS mask (SetTable.bits h % (mask + 1), SetTable.bits h)
  | k + 1 => advM mask (stp mask h k)
noncomputable def wk (mask : Nat) (h : Int) (k : Nat) : Nat := (stp mask h k).j
theorem stp_dummy (mask : Nat) (h : Int) : ∀ k, (stp mask h k).dummy = none
  | 0 => rfl
  | k + 1 => by
    show (advM mask (stp mask h k)).dummy = none
    unfold advM
    split <;> exact stp_dummy mask h k
noncomputable abbrev Msk (mask : Nat) : Prop := mask = 7 ∨ mask = 31
/-! ### binary search -/
theorem below_go {xs : Array Nat} {j : Nat} (srt : xs.toList.Pairwise (· < ·)) : ∀ (fuel lo hi : Nat), lo ≤ hi → hi ≤ xs.size → hi - lo ≤ fuel → (∀ (i : Nat) x, i < lo → xs[i]? = some x → x < j) → (∀ (i : Nat) x, hi ≤ i → xs[i]? = some x → j ≤ x) →
    (SetTable.below.go xs j fuel lo hi ≤ xs.size ∧ (∀ (i : Nat) x, i < SetTable.below.go xs j fuel lo hi → xs[i]? = some x → x < j) ∧ ∀ (i : Nat) x, SetTable.below.go xs j fuel lo hi ≤ i → xs[i]? = some x → j ≤ x)
  | 0, lo, hi, h1, h2, h3, a, b => by
    rw [SetTable.below.go.eq_1]
    have : lo = hi := by omega
    subst this
    exact ⟨h2, a, b⟩
  | fuel + 1, lo, hi, h1, h2, h3, a, b => by
    have mono : ∀ {i k : Nat} {x y : Nat}, i < k → xs[i]? = some x → xs[k]? = some y → x < y := fun {i k x y} hik e1 e2 => by
      rw [← Array.getElem?_toList] at e1 e2
      obtain ⟨l1, g1⟩ := List.getElem?_eq_some_iff.mp e1
      obtain ⟨l2, g2⟩ := List.getElem?_eq_some_iff.mp e2
      have := List.pairwise_iff_getElem.mp srt i k l1 l2 hik
      rw [g1, g2] at this
      exact this
    rw [SetTable.below.go.eq_2]
    by_cases c : lo < hi
    · rw [if_pos c]
      have hm : (lo + hi) / 2 < xs.size := by omega
      have em : xs[(lo + hi) / 2]? = some xs[(lo + hi) / 2] := Array.getElem?_eq_getElem hm
      have eg : xs.getD ((lo + hi) / 2) j = xs[(lo + hi) / 2] := by rw [Array.getD_eq_getD_getElem?, em]; rfl
      show _ ∧ _
      by_cases d : xs.getD ((lo + hi) / 2) j < j
      · rw [if_pos d]
        rw [eg] at d
        refine below_go srt fuel _ hi (by omega) h2 (by omega) (fun i x hi' e => ?_) b
        by_cases z : i = (lo + hi) / 2
        · subst z; rw [em] at e; cases e; exact d
        · exact Nat.lt_trans (mono (by omega) e em) d
      · rw [if_neg d]
        rw [eg] at d
        refine below_go srt fuel lo _ (by omega) (by omega) (by omega) a (fun i x hi' e => ?_)
        by_cases z : i = (lo + hi) / 2
        · subst z; rw [em] at e; cases e; omega
        · have := mono (show (lo + hi) / 2 < i by omega) em e
          omega
    · rw [if_neg c]
      have : lo = hi := by omega
      subst this
      exact ⟨h2, a, b⟩
theorem below_is {xs : Array Nat} (srt : xs.toList.Pairwise (· < ·)) (j : Nat) : SetTable.below xs j ≤ xs.size ∧ (∀ (i : Nat) x, i < SetTable.below xs j → xs[i]? = some x → x < j) ∧ ∀ (i : Nat) x, SetTable.below xs j ≤ i → xs[i]? = some x → j ≤ x :=
  below_go srt _ 0 xs.size (Nat.zero_le _) (Nat.le_refl _) (by omega) (fun i x h => by omega) (fun i x h e => by
    have := (Array.getElem?_eq_some_iff.mp e).1
    omega)
theorem below_at {xs : Array Nat} (srt : xs.toList.Pairwise (· < ·)) {i j : Nat} (e : xs[i]? = some j) : SetTable.below xs j = i := by
  obtain ⟨a, b, c⟩ := below_is srt j
  by_cases h1 : i < SetTable.below xs j
  · have := b i j h1 e; omega
  · by_cases h2 : SetTable.below xs j < i
    · have hs : SetTable.below xs j < xs.size := by have := (Array.getElem?_eq_some_iff.mp e).1; omega
      have er : xs[SetTable.below xs j]? = some xs[SetTable.below xs j] := Array.getElem?_eq_getElem hs
      have := c _ _ (Nat.le_refl _) er
      rw [← Array.getElem?_toList] at e er
      obtain ⟨l1, g1⟩ := List.getElem?_eq_some_iff.mp e
      obtain ⟨l2, g2⟩ := List.getElem?_eq_some_iff.mp er
      have := List.pairwise_iff_getElem.mp srt _ _ l2 l1 h2
      rw [g1, g2] at this
      omega
    · omega
theorem has_nil (j : Nat) : SetTable.has #[] j = false := rfl
theorem slot_live {t : SetTable} (srt : t.place.toList.Pairwise (· < ·)) {i j : Nat} (e : t.place[i]? = some j) : t.slot j = .live i := by
  unfold SetTable.slot
  show (if (t.place[SetTable.below t.place j]? == some j) = true then _ else _) = _
  rw [below_at srt e, e, if_pos (beq_self_eq_true _)]
theorem slot_empty {t : SetTable} (dum : t.dummies = #[]) {j : Nat} (e : j ∉ t.place.toList) : t.slot j = .empty := by
  unfold SetTable.slot
  show (if (t.place[SetTable.below t.place j]? == some j) = true then _ else if SetTable.has t.dummies j = true then _ else _) = _
  have : ¬ (t.place[SetTable.below t.place j]? == some j) = true := fun h => by
    have h := eq_of_beq h
    rw [← Array.getElem?_toList] at h
    exact e (List.mem_of_getElem? h)
  rw [if_neg this, dum, has_nil, if_neg Bool.false_ne_true]
/-! ### a table that holds hashes -/
structure TOk (t : SetTable) (hs : List Int) : Prop where
  msk : Msk t.mask
  dum : t.dummies = #[]
  len : t.place.toList.length = hs.length
  srt : t.place.toList.Pairwise (· < ·)
  bnd : ∀ j ∈ t.place.toList, j ≤ t.mask
  rch : ∀ (i : Nat) h, hs[i]? = some h → ∃ k, t.place.toList[i]? = some (wk t.mask h k) ∧ ∀ k', k' < k → wk t.mask h k' ∈ t.place.toList
/-- what a search meets next -/
theorem go_meets {t : SetTable} {hs : List Int} (T : TOk t hs) {hashAt : Nat → Int} {h : Int} {k0 : Nat} (free : wk t.mask h k0 ∉ t.place.toList) (full : ∀ k', k' < k0 → wk t.mask h k' ∈ t.place.toList) : ∀ (fuel k : Nat), k ≤ k0 → k0 - k < fuel →
    (∃ k1 i, k ≤ k1 ∧ k1 < k0 ∧ t.place.toList[i]? = some (wk t.mask h k1) ∧ hashAt i = h ∧ SetTable.probe.go t hashAt h fuel (stp t.mask h k) = some (.candidate (wk t.mask h k1) i (stp t.mask h (k1 + 1))) ∧ ∀ k', k ≤ k' → k' < k1 → ∀ i', t.place.toList[i']? = some (wk t.mask h k') → hashAt i' ≠ h) ∨
    (SetTable.probe.go t hashAt h fuel (stp t.mask h k) = some (.empty (wk t.mask h k0) none) ∧ ∀ k', k ≤ k' → k' < k0 → ∀ i', t.place.toList[i']? = some (wk t.mask h k') → hashAt i' ≠ h)
  | 0, k, h1, h2 => by omega
  | fuel + 1, k, h1, h2 => by
    rw [SetTable.probe.go.eq_2]
    by_cases e : k = k0
    · subst e
      right
      rw [show t.slot (stp t.mask h k).j = .empty from slot_empty T.dum free]
      refine ⟨?_, fun k' a b => by omega⟩
      show some (SetTable.Met.empty (wk t.mask h k) (stp t.mask h k).dummy) = _
      rw [stp_dummy]
    · obtain ⟨i, ei⟩ := List.getElem?_of_mem (full k (by omega))
      have ei' : t.place[i]? = some (wk t.mask h k) := by rw [← Array.getElem?_toList]; exact ei
      rw [show t.slot (stp t.mask h k).j = .live i from slot_live T.srt ei']
      show (∃ k1 i1, _ ∧ _ ∧ _ ∧ _ ∧ (if (hashAt i == h) = true then some (SetTable.Met.candidate (wk t.mask h k) i (stp t.mask h (k + 1))) else SetTable.probe.go t hashAt h fuel (stp t.mask h (k + 1))) = _ ∧ _) ∨ ((if (hashAt i == h) = true then some (SetTable.Met.candidate (wk t.mask h k) i (stp t.mask h (k + 1))) else SetTable.probe.go t hashAt h fuel (stp t.mask h (k + 1))) = _ ∧ _)
      by_cases c : hashAt i = h
      · left
        exact ⟨k, i, Nat.le_refl _, by omega, ei, c, by rw [if_pos (by rw [c]; exact beq_self_eq_true _)], fun k' a b => by omega⟩
      · have nc : ¬ (hashAt i == h) = true := fun z => c (eq_of_beq z)
        rw [if_neg nc]
        have here : ∀ i', t.place.toList[i']? = some (wk t.mask h k) → hashAt i' ≠ h := fun i' e' => by
          have : i' = i := by
            have b1 := below_at T.srt (i := i') (j := wk t.mask h k) (by rw [← Array.getElem?_toList]; exact e')
            have b2 := below_at T.srt ei'
            omega
          rw [this]; exact c
        rcases go_meets T free full fuel (k + 1) (by omega) (by omega) with ⟨k1, i1, a1, a2, a3, a4, a5, a6⟩ | ⟨a1, a2⟩
        · left
          refine ⟨k1, i1, by omega, a2, a3, a4, a5, fun k' b1 b2 i' e' => ?_⟩
          by_cases z : k' = k
          · subst z; exact here i' e'
          · exact a6 k' (by omega) b2 i' e'
        · right
          refine ⟨a1, fun k' b1 b2 i' e' => ?_⟩
          by_cases z : k' = k
          · subst z; exact here i' e'
          · exact a2 k' (by omega) b2 i' e'

theorem TOk.of {t t2 : SetTable} {hs : List Int} (T : TOk t hs) (e1 : t2.mask = t.mask) (e2 : t2.place = t.place) (e3 : t2.dummies = t.dummies) : TOk t2 hs :=
  ⟨by rw [e1]; exact T.msk, by rw [e3]; exact T.dum, by rw [e2]; exact T.len, by rw [e2]; exact T.srt, by rw [e1, e2]; exact T.bnd, by rw [e1, e2]; exact T.rch⟩
/-! ### a table laid anew -/
end L2

set_option Elab.async false
set_option linter.all false
set_option maxRecDepth 100000
set_option maxHeartbeats 4000000
namespace L2
open PySem PySem.Spec PyProof.Rows
/-! ### a set of tuples of ints: adding -/
section
variable {prog : Program} {w : World} {A : Around} {E : Value → Shared → Prop} {s : Shared}
theorem wp_forIn_list {M : Model} {α β : Type} (f : α → β → Sem (ForInStep β)) (I : List α → β → Shared → Prop) (Q : β → Shared → Prop)
    (hs : ∀ (x : α) (rest : List α) (b : β) (s : Shared), I (x :: rest) b s → wpAny M A (f x b) (fun r s' => match r with | ForInStep.yield b' => I rest b' s' | ForInStep.done b' => Q b' s') E s)
    (hd : ∀ (b : β) (s : Shared), I [] b s → Q b s) : ∀ (xs : List α) (b : β) (s : Shared), I xs b s → wpAny M A (forIn xs b f) Q E s
  | [], b, s, h => by rw [List.forIn_nil]; exact wpAny_pure (hd b s h)
  | x :: xs, b, s, h => by
    rw [List.forIn_cons]
    refine wpAny_bind ?_
    have := hs x xs b s h
    revert this
    generalize f x b = m
    intro this
    refine wpAny_mono this (fun r s' hr => ?_) (fun _ _ h => h)
    cases r with
    | done b' => exact wpAny_pure hr
    | yield b' => exact wp_forIn_list f I Q hs hd xs b' s' hr
theorem items_val {ks : List Int} {vs : List Value} (h : PySem.ItemsAre (intKind prog w) ks vs) : ∀ v ∈ vs, carriedByValue v = true := by
  induction h with
  | nil => intro v hv; cases hv
  | cons h1 h2 ih =>
    intro v hv
    rcases List.mem_cons.mp hv with rfl | hv
    · exact (intKind prog w).byValue _ _ h1
    · exact ih v hv
theorem noref {v : Value} (h : carriedByValue v = true) : ∀ a, v = Value.ref a → False := fun a e => by subst e; cases h
theorem ofA_tup {k : List Int} {p : Addr} {Q : Bool → Shared → Prop} (h : IsTupleKey (intKind prog w) s.heap k p) (q : Q false s) : wpAny (model prog w) A (ofAClassStatement 8 (.ref p)) Q E s := by
  show wpAny (model prog w) A (ofAClassStatement (7 + 1) (.ref p)) Q E s
  rw [ofAClassStatement.eq_2]
  refine wpAny_bind (wpAny_typeOf h.typeIs ?_)
  obtain ⟨o, items, n, ho, hc, hd, hi⟩ := h
  show wpAny (model prog w) A (if ("tuple" == "tuple") = true then _ else _) Q E s
  refine wpAny_ite_true rfl ?_
  refine wpAny_bind (wpAny_pure ?_)
  refine wpAny_ite_false rfl ?_
  refine wpAny_bind (wpAny_seqItems ho hd ?_)
  refine wpAny_bind ?_
  refine wpAny_forIn_array' _ (fun rest b s' => s' = s ∧ b = (none, ()) ∧ ∀ v ∈ rest, carriedByValue v = true) _ ?_ ?_ items _ ⟨rfl, rfl, items_val hi⟩
  · rintro x rest b s' ⟨rfl, rfl, hv⟩
    rw [ofAClassStatement.eq_3 _ _ (noref (hv x (.head _)))]
    refine wpAny_bind (wpAny_pure ?_)
    refine wpAny_ite_false rfl (wpAny_pure ?_)
    exact ⟨rfl, rfl, fun v h => hv v (.tail _ h)⟩
  · rintro b s' ⟨rfl, rfl, _⟩
    exact wpAny_pure q
theorem seen_no {k : List Int} {q : Addr} {Q : Bool → Shared → Prop} (hk : IsTupleKey (intKind prog w) s.heap k q) {vs : List Value} (hv : ∀ v ∈ vs, ∃ p k', v = .ref p ∧ IsTupleKey (intKind prog w) s.heap k' p) (hQ : Q false s) : wpAny (model prog w) A (searchCouldBeSeen (.ref q) vs) Q E s := by
  unfold searchCouldBeSeen
  refine wpAny_bind ?_
  refine wp_forIn_list _ (fun rest b s' => s' = s ∧ b = (none, ()) ∧ ∀ v ∈ rest, ∃ p k', v = .ref p ∧ IsTupleKey (intKind prog w) s.heap k' p) _ ?_ ?_ vs _ _ ⟨rfl, rfl, hv⟩
  · rintro x rest b s' ⟨rfl, rfl, hv⟩
    obtain ⟨p, k', rfl, hp⟩ := hv x (.head _)
    have hr : ∀ v ∈ rest, ∃ p k', v = .ref p ∧ IsTupleKey (intKind prog w) s'.heap k' p := fun v h => hv v (.tail _ h)
    show wpAny (model prog w) A (if ((q == p) || carriedByValue (Value.ref q) && carriedByValue (Value.ref p)) = true then _ else _) _ E s'
    by_cases c : ((q == p) || carriedByValue (Value.ref q) && carriedByValue (Value.ref p)) = true
    · rw [if_pos c]
      exact wpAny_pure ⟨rfl, rfl, hr⟩
    · rw [if_neg c]
      refine wpAny_bind (wpAny_eqIsQuiet_tuple hk ?_)
      refine wpAny_ite_false rfl ?_
      refine wpAny_bind (wpAny_eqIsQuiet_tuple hp ?_)
      refine wpAny_ite_false rfl ?_
      refine wpAny_bind (ofA_tup hk ?_)
      refine wpAny_ite_false rfl ?_
      refine wpAny_bind (ofA_tup hp ?_)
      refine wpAny_ite_false rfl ?_
      exact wpAny_pure ⟨rfl, rfl, hr⟩
  · rintro b s' ⟨rfl, rfl, _⟩
    exact wpAny_pure hQ
/-- a set of tuples, with its keys -/
structure SetE (prog : Program) (w : World) (h : Heap) (a : Addr) (o : Obj) (es : Array (Int × Value)) (ep : Nat) (t : SetTable) (keys : List (List Int)) : Prop where
  at_ : h.get? a = some o
  ex : o.ExactSet
  dat : o.data = Data.set es ep t
  tab : TOk t (es.toList.map (·.1))
  few : es.size * 5 < t.mask * 3
  sz : es.size = keys.length
  el : ∀ e ∈ es.toList, ∃ p k, k ∈ keys ∧ e = (tupleKeyHash (intKind prog w) k, .ref p) ∧ IsTupleKey (intKind prog w) h k p
  all : ∀ k ∈ keys, ∃ e ∈ es.toList, ∃ p, e = (tupleKeyHash (intKind prog w) k, .ref p) ∧ IsTupleKey (intKind prog w) h k p
theorem SetE.mask {h : Heap} {a : Addr} {o : Obj} {es : Array (Int × Value)} {ep : Nat} {t : SetTable} {keys : List (List Int)} (S : SetE prog w h a o es ep t keys) : Msk t.mask := S.tab.msk
theorem TOk.fits {t : SetTable} {es : Array (Int × Value)} (T : TOk t (es.toList.map (·.1))) (few : es.size ≤ t.mask) : t.fits es.size = true := by
  have l := T.len
  rw [List.length_map, Array.length_toList, Array.length_toList] at l
  unfold SetTable.fits SetTable.fill
  rw [T.dum, l]
  simp
  exact few
theorem SetE.fits {h : Heap} {a : Addr} {o : Obj} {es : Array (Int × Value)} {ep : Nat} {t : SetTable} {keys : List (List Int)} (S : SetE prog w h a o es ep t keys) : t.fits es.size = true := S.tab.fits (by have := S.few; omega)
theorem SetE.gave {h : Heap} {a : Addr} {o : Obj} {es : Array (Int × Value)} {ep : Nat} {t : SetTable} {keys : List (List Int)} (S : SetE prog w h a o es ep t keys) : t.gaveWay = false := by
  unfold SetTable.gaveWay
  rcases S.mask with e | e <;> rw [e] <;> rfl
theorem same_ref (p : Addr) : isSame (.ref p) (.ref p) = pure true := by
  show (if (p == p) = true then pure true else _) = _
  rw [if_pos (beq_self_eq_true p)]
theorem same_mem (t : SetTable) : t.sameMemory t.moves t.mask = some true := by
  unfold SetTable.sameMemory
  rw [if_pos (beq_self_eq_true _)]
theorem search {a : Addr} {o : Obj} {es : Array (Int × Value)} {ep : Nat} {t : SetTable} {keys : List (List Int)} (S : SetE prog w s.heap a o es ep t keys) (hA : A.units < cLine) {k : List Int} {q : Addr} (hk : IsTupleKey (intKind prog w) s.heap k q) {k0 : Nat} (free : wk t.mask (tupleKeyHash (intKind prog w) k) k0 ∉ t.place.toList) (full : ∀ k', k' < k0 → wk t.mask (tupleKeyHash (intKind prog w) k) k' ∈ t.place.toList) (hk0 : k0 < 10 * (t.mask + 14)) {Q : SetFound → Shared → Prop} (q1 : k ∈ keys → Q (.there none) s) (q2 : k ∉ keys → Q (.free (wk t.mask (tupleKeyHash (intKind prog w) k) k0) false) s) :
    ∀ (fuel n : Nat) (stand : Option SetTable.Probe), n ≤ k0 → k0 - n < fuel → stand.getD (t.probeStart (tupleKeyHash (intKind prog w) k)) = stp t.mask (tupleKeyHash (intKind prog w) k) n → (∀ k', k' < n → ∀ (i : Nat) p, t.place.toList[i]? = some (wk t.mask (tupleKeyHash (intKind prog w) k) k') → es.toList[i]? = some (tupleKeyHash (intKind prog w) k, .ref p) → ¬ IsTupleKey (intKind prog w) s.heap k p) → wpAny (model prog w) A (setSearchFrom a (.ref q) (tupleKeyHash (intKind prog w) k) true fuel stand) Q E s
  | 0, n, stand, h1, h2, h3, h4 => by omega
  | fuel + 1, n, stand, h1, h2, h3, h4 => by
    rw [setSearchFrom.eq_2]
    refine wpAny_bind (wpAny_setState_of S.at_ S.dat S.fits ?_)
    show wpAny (model prog w) A (if t.gaveWay = true then _ else _) Q E s
    rw [S.gave]
    refine wpAny_ite_false rfl ?_
    rw [h3]
    have hl := S.tab.len
    rw [List.length_map] at hl
    rcases go_meets S.tab (hashAt := fun i => (Option.map (fun x => x.fst) es[i]?).getD 0) free full (10 * (t.mask + 15)) n h1 (by omega) with ⟨k1, i, b1, b2, b3, b4, b5, b6⟩ | ⟨b1, b2⟩
    · have b5 : t.probe (fun i => (Option.map (fun x => x.fst) es[i]?).getD 0) (tupleKeyHash (intKind prog w) k) (stp t.mask (tupleKeyHash (intKind prog w) k) n) = _ := b5
      show wpAny (model prog w) A (match t.probe (fun i => (Option.map (fun x => x.fst) es[i]?).getD 0) (tupleKeyHash (intKind prog w) k) (stp t.mask (tupleKeyHash (intKind prog w) k) n) with | some met => _ | _ => _) Q E s
      rw [b5]
      have hi : i < es.size := by
        have := (List.getElem?_eq_some_iff.mp b3).1
        rw [hl, Array.length_toList] at this
        exact this
      have ei : es[i]? = some es[i] := Array.getElem?_eq_getElem hi
      have em : es[i] ∈ es.toList := by rw [Array.mem_toList_iff]; exact Array.getElem_mem hi
      obtain ⟨p, k', hk', eq, hp⟩ := S.el _ em
      rw [eq] at ei em
      have hh : tupleKeyHash (intKind prog w) k' = tupleKeyHash (intKind prog w) k := by
        rw [ei] at b4
        exact b4
      have inv : ¬ k' = k → ∀ k'', k'' < k1 + 1 → ∀ (i' : Nat) p', t.place.toList[i']? = some (wk t.mask (tupleKeyHash (intKind prog w) k) k'') → es.toList[i']? = some (tupleKeyHash (intKind prog w) k, .ref p') → ¬ IsTupleKey (intKind prog w) s.heap k p' := fun ne k'' hk'' i' p' e1 e2 hp' => by
        by_cases c1 : k'' < n
        · exact h4 k'' c1 i' p' e1 e2 hp'
        · by_cases c2 : k'' < k1
          · have := b6 k'' (by omega) c2 i' e1
            rw [← Array.getElem?_toList, e2] at this
            exact this rfl
          · have : k'' = k1 := by omega
            subst this
            have x1 := below_at S.tab.srt (i := i') (by rw [← Array.getElem?_toList]; exact e1)
            have x2 := below_at S.tab.srt (i := i) (by rw [← Array.getElem?_toList]; exact b3)
            have : i' = i := by omega
            subst this
            rw [Array.getElem?_toList, ei] at e2
            have := (Prod.mk.inj (Option.some.inj e2)).2
            cases this
            exact ne (IsTupleKey.inj hp hp')
      refine wpAny_ite ?_
      split
      · refine wpAny_bind (seen_no hk (fun v hv => ?_) ?_)
        · obtain ⟨z, hz, rfl⟩ := List.mem_map.mp hv
          obtain ⟨hz, _⟩ := Array.mem_filter.mp (Array.mem_toList_iff.mp hz)
          obtain ⟨p2, k2, _, e2, h2⟩ := S.el z (Array.mem_toList_iff.mpr hz)
          exact ⟨p2, k2, by rw [e2], h2⟩
        refine wpAny_ite_false rfl ?_
        rw [ei]
        refine wpAny_bind (wpAny_holding (wpAny_eqBool_tuple hA hp hk ?_))
        refine wpAny_bind (wpAny_setState_of S.at_ S.dat S.fits ?_)
        by_cases e : k' = k
        · rw [decide_eq_true e]
          exact wpAny_ite_true rfl (wpAny_pure (q1 (e ▸ hk')))
        · rw [decide_eq_false e]
          refine wpAny_ite_false rfl ?_
          rw [same_mem]
          show wpAny (model prog w) A (match t.slot (wk t.mask (tupleKeyHash (intKind prog w) k) k1) with | SetTable.Slot.live i' => _ | x => _) Q E s
          rw [slot_live S.tab.srt (i := i) (by rw [← Array.getElem?_toList]; exact b3)]
          show wpAny (model prog w) A (match es[i]? with | some (fst, y') => _ | none => _) Q E s
          rw [ei]
          refine wpAny_bind (wpAny_of_eq (same_ref p) ?_)
          refine wpAny_bind (wpAny_pure ?_)
          refine wpAny_ite_false rfl ?_
          exact search S hA hk free full hk0 q1 q2 fuel (k1 + 1) (some _) (by omega) (by omega) rfl (inv e)
      · rw [ei]
        refine wpAny_bind (wpAny_holding (wpAny_eqBool_tuple hA hp hk ?_))
        refine wpAny_bind (wpAny_setState_of S.at_ S.dat S.fits ?_)
        by_cases e : k' = k
        · rw [decide_eq_true e]
          exact wpAny_ite_true rfl (wpAny_pure (q1 (e ▸ hk')))
        · rw [decide_eq_false e]
          refine wpAny_ite_false rfl ?_
          rw [same_mem]
          show wpAny (model prog w) A (match t.slot (wk t.mask (tupleKeyHash (intKind prog w) k) k1) with | SetTable.Slot.live i' => _ | x => _) Q E s
          rw [slot_live S.tab.srt (i := i) (by rw [← Array.getElem?_toList]; exact b3)]
          show wpAny (model prog w) A (match es[i]? with | some (fst, y') => _ | none => _) Q E s
          rw [ei]
          refine wpAny_bind (wpAny_of_eq (same_ref p) ?_)
          refine wpAny_bind (wpAny_pure ?_)
          refine wpAny_ite_false rfl ?_
          exact search S hA hk free full hk0 q1 q2 fuel (k1 + 1) (some _) (by omega) (by omega) rfl (inv e)
    · have b1 : t.probe (fun i => (Option.map (fun x => x.fst) es[i]?).getD 0) (tupleKeyHash (intKind prog w) k) (stp t.mask (tupleKeyHash (intKind prog w) k) n) = _ := b1
      show wpAny (model prog w) A (match t.probe (fun i => (Option.map (fun x => x.fst) es[i]?).getD 0) (tupleKeyHash (intKind prog w) k) (stp t.mask (tupleKeyHash (intKind prog w) k) n) with | some met => _ | _ => _) Q E s
      rw [b1]
      refine wpAny_pure (q2 fun hin => ?_)
      obtain ⟨e, he, p, rfl, hp⟩ := S.all k hin
      obtain ⟨i, ei⟩ := List.getElem?_of_mem he
      obtain ⟨kx, r1, r2⟩ := S.tab.rch i (tupleKeyHash (intKind prog w) k) (by rw [List.getElem?_map, ei]; rfl)
      have lt : kx < k0 := by
        by_cases z : kx < k0
        · exact z
        · exfalso
          by_cases z2 : kx = k0
          · subst z2
            exact free (List.mem_of_getElem? r1)
          · exact free (r2 k0 (by omega))
      by_cases c : kx < n
      · exact h4 kx c i p r1 ei hp
      · have := b2 kx (by omega) lt i r1
        rw [← Array.getElem?_toList, ei] at this
        exact this rfl

end
end L2

set_option Elab.async false
set_option linter.all false
set_option maxRecDepth 100000
set_option maxHeartbeats 4000000
namespace L2
open PySem PySem.Spec PyProof.Rows
/-! ### set(xs) of a list of tuples of ints -/
section
variable {prog : Program} {w : World} {A : Around} {E : Value → Shared → Prop} {s : Shared}
theorem tk_mono {h h' : Heap} {k : List Int} {p : Addr} (hk : IsTupleKey (intKind prog w) h k p) (m : ∀ o, h.get? p = some o → h'.get? p = some o) : IsTupleKey (intKind prog w) h' k p := by
  obtain ⟨o, i, n, g, c, d, x⟩ := hk
  exact ⟨o, i, n, m o g, c, d, x⟩
theorem SetE.mono {h h' : Heap} {a : Addr} {o : Obj} {es : Array (Int × Value)} {ep : Nat} {t : SetTable} {keys : List (List Int)} (S : SetE prog w h a o es ep t keys) (m : ∀ b o, h.get? b = some o → h'.get? b = some o) : SetE prog w h' a o es ep t keys :=
  ⟨m _ _ S.at_, S.ex, S.dat, S.tab, S.few, S.sz, fun e he => by obtain ⟨p, k, h1, h2, h3⟩ := S.el e he; exact ⟨p, k, h1, h2, tk_mono h3 fun o g => m _ o g⟩, fun k hk => by obtain ⟨e, he, p, h2, h3⟩ := S.all k hk; exact ⟨e, he, p, h2, tk_mono h3 fun o g => m _ o g⟩⟩
end
end L2

set_option Elab.async false
set_option linter.all false
set_option maxRecDepth 100000
set_option maxHeartbeats 4000000
namespace L2
open PySem PySem.Spec PyProof.Rows PySem.W
/-! ### len(set(xs)) of a list of pairs of ints -/
section
variable {X : Cx} {K : PySem.W.Frag}
end
end L2

set_option Elab.async false
set_option linter.all false
set_option maxRecDepth 100000
set_option maxHeartbeats 4000000
namespace L2
open PySem PySem.Spec PyProof.Rows PySem.W
/-! ### sorted of a list of pairs, of a dict's ints -/
section
variable {prog : Program} {w : World} {A : Around} {E : Value → Shared → Prop} {s : Shared}
end
section
variable {X : Cx} {K : PySem.W.Frag}
end
end L2

set_option Elab.async false
set_option linter.all false
set_option maxRecDepth 100000
set_option maxHeartbeats 2000000
namespace L2
open PySem PySem.Spec PyProof.Rows
/-! ### methods of texts: join, split, startswith -/
section
variable {X : Cx} {K : PySem.W.Frag}
noncomputable def qSM (r : Str → List V → Hp → VK → Prop) (to : TE) (t : TA) : TE := fun σ H Q => to σ H fun x H1 => match x with
  | .str p => t σ H1 fun xs H2 => r p xs H2 Q
  | _ => False
noncomputable def MtS (X : Cx) (id : String) (r : Str → List V → Hp → VK → Prop) : Prop :=
  ∀ (pins : List (Addr × Obj)) (s : Shared) (σ : St) (H : Hp) (p : Str) (tk : Tok) (xs : List V) (us : List Value) (Q : VK), Inv X pins σ H s → Vals xs us → r p xs H Q →
    wpAny (model X.prog X.w) X.A (call (.builtin id) (.str p tk :: us)) (EP X pins σ Q) X.xe s
theorem peSM {o e : Expr} {es : List Expr} {to : TE} {t : TA} {name : Str} {apos cpos : Pos} {id : String} {r : Str → List V → Hp → VK → Prop} (slot : Slot "str" name id) (hty : typeOf (.builtin id) = pure (.type "method_descriptor")) (hm : MtS X id r) (ho : PE X o to) (ha : PA X (e :: es) t)
    (hbase : attributeBase o name X.env (eval o X.env) = eval o X.env := by rfl)
    (hfew : ((backTo cpos (starEach (e :: es) X.env)).all (fun x => !x.1) && (backToKw cpos (keywordEach [] X.env)).all (fun x => x.1.isSome)
      && decide ((e :: es).length + ([] : List Keyword).length + (if ([] : List Keyword).isEmpty then 0 else 1) < 30)) = true := by rfl)
    (hline : (apos.endLine == cpos.line) = true := by rfl) (hs : starEach (e :: es) X.env = (false, eval e X.env) :: starEach es X.env := by rfl) (hplain : (backTo cpos (starEach es X.env)).any (·.1) = false := by rfl) :
    PE X (.Call (.Attribute o name apos) (e :: es) [] cpos) (qSM r to t) := by
  intro pins s σ H Q I h
  refine wpAny_Call_method_late hbase hfew hline rfl (thn (ho pins s σ H _ I h) fun v s1 ⟨x, H1, I1, r1, q1⟩ => ?_)
  dsimp only at q1
  split at q1
  · rename_i p
    obtain ⟨h1, h2⟩ := tyV_is (T := "str") I1 r1 rfl
    refine ⟨"str", id, PySem.F.plainAttrs_str, slot, hty, h1, h2, ?_⟩
    have hA := ha cpos pins s1 σ H1 _ I1 q1
    rw [hs] at hA ⊢
    refine Calls.callWith_builtin (by show (false || (backTo cpos (starEach es X.env)).any (·.1)) = false; rw [hplain] <;> rfl) (Calls.evalArgs_plain ?_)
    obtain ⟨tk, rfl⟩ := r1
    exact thn hA fun us s2 ⟨vs, H2, I2, r2, q2⟩ => hm pins s2 σ H2 p tk vs us Q I2 r2 q2
  · exact q1.elim
/- join -/
theorem strs_are : ∀ {ys : List Str} {us : List Value}, Vals (ys.map V.str) us → StrsAre us ys
  | [], us, h => by cases h; exact .nil
  | y :: ys, us, h => by
    cases h with
    | cons h1 h2 =>
      obtain ⟨t, rfl⟩ := h1
      exact .cons y t (strs_are h2)
@[irreducible] noncomputable def rJoinA (K : PySem.W.Frag) (x : Str) (p : Addr) (H : Hp) (Q : VK) : Prop := ∃ ys : List Str, SqL K H p (ys.map V.str) ∧ (ys.map (·.length)).sum + ys.length * x.length ≤ 16777216 ∧ Q (.str (Txt.join x ys)) H
noncomputable def rJoinM (K : PySem.W.Frag) : Str → List V → Hp → VK → Prop := fun x vs H Q => match vs with
  | [.ref p] => rJoinA K x p H Q
  | _ => False
theorem mJoin : MtS X "str.join" (rJoinM X.K) := fun pins s σ H x tk xs us Q I r h => by
  unfold rJoinM at h
  split at h
  · unfold rJoinA at h
    obtain ⟨ys, h1, h2, q⟩ := h
    obtain ⟨u, rfl, r1⟩ := vals1 r
    cases r1
    obtain ⟨its, r2, pl, _⟩ := I.list h1
    exact join_list pl.isList (strs_are r2) h2 fun t' k => ⟨.str _, H, I.tok _, ⟨_, rfl⟩, q⟩
  · exact h.elim
theorem join_rd {x : Str} {p : Addr} {H : Hp} {Q : VK} {ys : List Str} (h : H p = some (.lst (ys.map V.str))) (hz : (ys.map (·.length)).sum + ys.length * x.length ≤ 16777216) (q : Q (.str (Txt.join x ys)) H) : rJoinA K x p H Q := by unfold rJoinA; exact ⟨ys, SqL.of h, hz, q⟩
theorem peM_join {o e : Expr} {to : TE} {t : TA} {apos cpos : Pos} (hK : X.K = K) (ho : PE X o to) (ha : PA X [e] t) (hbase : attributeBase o "join" X.env (eval o X.env) = eval o X.env := by rfl)
    (hfew : ((backTo cpos (starEach [e] X.env)).all (fun x => !x.1) && (backToKw cpos (keywordEach [] X.env)).all (fun x => x.1.isSome)
      && decide ([e].length + ([] : List Keyword).length + (if ([] : List Keyword).isEmpty then 0 else 1) < 30)) = true := by rfl)
    (hline : (apos.endLine == cpos.line) = true := by rfl) (hs : starEach [e] X.env = (false, eval e X.env) :: starEach [] X.env := by rfl) (hplain : (backTo cpos (starEach [] X.env)).any (·.1) = false := by rfl) : PE X (.Call (.Attribute o "join" apos) [e] [] cpos) (qSM (rJoinM K) to t) := by
  subst hK
  exact peSM PySem.F.slot_str_join PySem.F.type_str_join mJoin ho ha hbase hfew hline hs hplain
/- split -/
theorem vals_from : ∀ (ys : List Str) (k : Nat), Vals (ys.map V.str) (strsFrom k ys)
  | [], _ => .nil
  | y :: ys, k => .cons ⟨_, rfl⟩ (vals_from ys (k + 1))
@[irreducible] noncomputable def rSplitA (x y : Str) (H : Hp) (Q : VK) : Prop := (y.length == 0) = false ∧ x.length + 2 ≤ sizeLine ∧ ∀ l H', H l = none → Same H H' → H' l = some (.lst ((Txt.split x y).map V.str)) → Q (.ref l) H'
noncomputable def rSplitM : Str → List V → Hp → VK → Prop := fun x vs H Q => match vs with
  | [.str y] => rSplitA x y H Q
  | _ => False
theorem mSplit : MtS X "str.split" rSplitM := fun pins s σ H x tk xs us Q I r h => by
  unfold rSplitM at h
  split at h
  · rename_i y
    unfold rSplitA at h
    obtain ⟨h1, h2, q⟩ := h
    obtain ⟨u, rfl, r1⟩ := vals1 r
    obtain ⟨t, rfl⟩ := r1
    have sl := split_le x y
    have one : Txt.split x y = [x] → EP X pins σ Q (.ref s.heap.objs.size) { s with heap := s.heap.push { cls := .type "list", data := .seq #[.str x tk] }, toks := s.toks } := fun e =>
      ⟨.ref _, _, I.lnew (t' := s.toks) (ys := [.str x]) (its := [.str x tk]) (.cons ⟨_, rfl⟩ .nil) (by rw [List.length_singleton]; omega), rfl, q _ _ I.fresh (Same.upd I.fresh) (by rw [upd_same, e]; rfl)⟩
    by_cases c1 : (decide (x.length < y.length) || decide (Builtin.Str.strKind x < Builtin.Str.strKind y)) = true
    · exact call_meets F.slot_str_split (typeIs_str s x tk) F.entry_str_split (F.args_str_split_2 _ _) (meets_str_split_cannot_occur x y tk t c1) (one (by unfold Txt.split; rw [if_pos c1]))
    · have c1' := Bool.eq_false_iff.mpr c1
      by_cases c2 : (Builtin.Str.occurrences x y 0 x.length (x.length + 1)).isEmpty = true
      · exact call_meets F.slot_str_split (typeIs_str s x tk) F.entry_str_split (F.args_str_split_2 _ _) (meets_str_split_not_found x y tk t c1' h1 c2) (one (by unfold Txt.split; rw [if_neg c1, if_pos c2]))
      · have c2' := Bool.eq_false_iff.mpr c2
        have e : Txt.split x y = Builtin.Str.partsBetween x (Builtin.Str.occurrences x y 0 x.length (x.length + 1)) y.length := by unfold Txt.split; rw [if_neg c1, if_neg c2]
        rw [e] at q sl
        refine call_meets F.slot_str_split (typeIs_str s x tk) F.entry_str_split (F.args_str_split_2 _ _) (meets_str_split_sep x y tk t c1' h1 c2' (by omega) (by omega)) ?_
        exact ⟨.ref _, _, I.lnew (vals_from _ s.toks) (by rw [List.length_map]; omega), rfl, q _ _ I.fresh (Same.upd I.fresh) upd_same⟩
  · exact h.elim
theorem split_rd {x y : Str} {H : Hp} {Q : VK} (h1 : (y.length == 0) = false) (h2 : x.length + 2 ≤ sizeLine) (q : ∀ l H', H l = none → Same H H' → H' l = some (.lst ((Txt.split x y).map V.str)) → Q (.ref l) H') : rSplitA x y H Q := by unfold rSplitA; exact ⟨h1, h2, q⟩
theorem peM_split {o e : Expr} {to : TE} {t : TA} {apos cpos : Pos} (hK : X.K = K) (ho : PE X o to) (ha : PA X [e] t) (hbase : attributeBase o "split" X.env (eval o X.env) = eval o X.env := by rfl)
    (hfew : ((backTo cpos (starEach [e] X.env)).all (fun x => !x.1) && (backToKw cpos (keywordEach [] X.env)).all (fun x => x.1.isSome)
      && decide ([e].length + ([] : List Keyword).length + (if ([] : List Keyword).isEmpty then 0 else 1) < 30)) = true := by rfl)
    (hline : (apos.endLine == cpos.line) = true := by rfl) (hs : starEach [e] X.env = (false, eval e X.env) :: starEach [] X.env := by rfl) (hplain : (backTo cpos (starEach [] X.env)).any (·.1) = false := by rfl) : PE X (.Call (.Attribute o "split" apos) [e] [] cpos) (qSM rSplitM to t) :=
  peSM PySem.F.slot_str_split PySem.F.type_str_split mSplit ho ha hbase hfew hline hs hplain
/- startswith -/
noncomputable def rStartM : Str → List V → Hp → VK → Prop := fun x vs H Q => match vs with
  | [.str y] => Q (.bl (Txt.startswith x y)) H
  | _ => False
theorem mStart : MtS X "str.startswith" rStartM := fun pins s σ H x tk xs us Q I r h => by
  unfold rStartM at h
  split at h
  · rename_i y
    obtain ⟨u, rfl, r1⟩ := vals1 r
    obtain ⟨t, rfl⟩ := r1
    exact call_gives F.slot_str_startswith (typeIs_str s x tk) F.entry_str_startswith (F.args_str_startswith_2 _ _) (gives_str_startswith x y tk t) ⟨.bl _, H, I, rfl, h⟩
  · exact h.elim
theorem peM_startswith {o e : Expr} {to : TE} {t : TA} {apos cpos : Pos} (hK : X.K = K) (ho : PE X o to) (ha : PA X [e] t) (hbase : attributeBase o "startswith" X.env (eval o X.env) = eval o X.env := by rfl)
    (hfew : ((backTo cpos (starEach [e] X.env)).all (fun x => !x.1) && (backToKw cpos (keywordEach [] X.env)).all (fun x => x.1.isSome)
      && decide ([e].length + ([] : List Keyword).length + (if ([] : List Keyword).isEmpty then 0 else 1) < 30)) = true := by rfl)
    (hline : (apos.endLine == cpos.line) = true := by rfl) (hs : starEach [e] X.env = (false, eval e X.env) :: starEach [] X.env := by rfl) (hplain : (backTo cpos (starEach [] X.env)).any (·.1) = false := by rfl) : PE X (.Call (.Attribute o "startswith" apos) [e] [] cpos) (qSM rStartM to t) :=
  peSM PySem.F.slot_str_startswith PySem.F.type_str_startswith mStart ho ha hbase hfew hline hs hplain
end
end L2

set_option Elab.async false
set_option linter.all false
set_option maxRecDepth 100000
set_option maxHeartbeats 2000000
namespace L2
open PySem PySem.Spec PyProof.Rows
/-! ### texts walked, cut, held against one another, read as numbers -/
section
variable {X : Cx} {K : PySem.W.Frag}
/-- the signs of a text -/
noncomputable def Its (x : Str) : It := ⟨fun i _ => i < x.cps.size, fun i H v H' => H' = H ∧ ∃ c, x.cps[i]? = some c ∧ v = .str ⟨#[c]⟩, fun i _ => x.cps.size ≤ i⟩
theorem go_str {M : Model} {A : Around} {E : Value → Shared → Prop} {s : Shared} {tg : Expr} {it : Addr} {x : Str} {t : Tok} {Q : Unit → Shared → Prop} (hQ : Q () s) : wpAny M A (letOwnedTupleGo tg (.ref it) (.str x t)) Q E s := by
  unfold letOwnedTupleGo
  cases tg <;> exact wpAny_pure hQ
theorem turn_str {P : Program} {w : World} {K : PySem.W.Frag} {tg : Expr} (x : Str) (tx : Tok) (it : Addr) : Turn P w K tg (Its x) [it] it (fun i h => h.IsStrIter it (strIterType x) x tx i) where
  mem := by simp
  obj := fun i h st b hb => by
    have e : b = it := by simpa using hb
    subst e
    obtain ⟨o, e, c, d⟩ := st
    exact ⟨o, e, fun v z => by rw [d] at z; cases z⟩
  keep := fun i h h' st k => by
    obtain ⟨o, e, c, d⟩ := st
    exact ⟨o, k it (by simp) o e, c, d⟩
  item := by
    intro X hP hw hK hc i pins s σ H E I hf st hg
    subst hP hw hK
    have hg : i < x.cps.size := hg
    obtain ⟨c, ec⟩ : ∃ c, x.cps[i]? = some c := ⟨_, Array.getElem?_eq_getElem hg⟩
    obtain ⟨f0, f1, f2, f3, f4, f5⟩ := hf it (by simp)
    have fin : ∀ h', h'.IsStrIter it (strIterType x) x tx (i + 1) → Heap.SameBut it s.heap h' → ∃ u, some (Value.str ⟨#[c]⟩ s.toks) = some u ∧ wpAny (model X.prog X.w) X.A (letOwnedTupleGo tg (.ref it) u) (fun _ s2 => ∃ v H', Inv X pins σ H' s2 ∧ RelV v u ∧ (Its x).yld i H v H' ∧ s2.heap.IsStrIter it (strIterType x) x tx (i + 1) ∧ ∀ b ∈ [it], H' b = none) E { s with heap := h', toks := s.toks + 1 } := fun h' st' sb =>
      ⟨_, rfl, go_str ⟨.str ⟨#[c]⟩, H, I.turned (t' := s.toks + 1) (fun b o hb e => (sb.2 b hb).trans e) f0 f1 f3 f4 f5, ⟨_, rfl⟩, ⟨rfl, c, ec, rfl⟩, st', fun b hb => (hf b hb).1⟩⟩
    by_cases ha : (x.cps.all fun x => decide (x < 128)) = true
    · have e : strIterType x = "str_ascii_iterator" := by unfold strIterType; rw [if_pos ha]
      rw [e] at st
      exact wpAny_pyNext_ascii_item st ec fun h' st' sb => fin h' (by rw [e]; exact st') sb
    · have e : strIterType x = "str_iterator" := by unfold strIterType; rw [if_neg ha]
      rw [e] at st
      exact wpAny_pyNext_wide_item st ec fun h' st' sb => fin h' (by rw [e]; exact st') sb
  done := by
    intro X hP hw hK hc i pins s σ H E I hf st hg
    subst hP hw hK
    have hg : x.cps.size ≤ i := hg
    have ec : x.cps[i]? = none := Array.getElem?_eq_none hg
    obtain ⟨f0, f1, f2, f3, f4, f5⟩ := hf it (by simp)
    by_cases ha : (x.cps.all fun x => decide (x < 128)) = true
    · have e : strIterType x = "str_ascii_iterator" := by unfold strIterType; rw [if_pos ha]
      rw [e] at st
      exact wpAny_pyNext_ascii_end (I.ok.hd hc) st ec fun h' eb => ⟨rfl, I.turned (t' := s.toks) (fun b o hb e => eb b o hb e) f0 f1 f3 f4 f5⟩
    · have e : strIterType x = "str_iterator" := by unfold strIterType; rw [if_neg ha]
      rw [e] at st
      exact wpAny_pyNext_wide_end (I.ok.hd hc) st ec fun h' eb => ⟨rfl, I.turned (t' := s.toks) (fun b o hb e => eb b o hb e) f0 f1 f3 f4 f5⟩
  self := fun A i s Q E st h => by
    by_cases ha : (x.cps.all fun x => decide (x < 128)) = true
    · have e : strIterType x = "str_ascii_iterator" := by unfold strIterType; rw [if_pos ha]
      rw [e] at st
      exact wpAny_pyIter_striter_ascii st h
    · have e : strIterType x = "str_iterator" := by unfold strIterType; rw [if_neg ha]
      rw [e] at st
      exact wpAny_pyIter_striter_wide st h
@[irreducible] noncomputable def rIterS (x : Str) (H : Hp) (R : It → Hp → Prop) : Prop := R (Its x) H
noncomputable def qiStr (tl : TE) : TI := fun σ H R => tl σ H fun x H1 => match x with
  | .str z => rIterS z H1 R
  | _ => False
theorem piStr {tg l : Expr} {tl : TE} (hl : PE X l tl) : PI X tg l (qiStr tl) := by
  intro pins s σ H R I h
  refine thn (hl pins s σ H _ I h) fun v s1 ⟨x, H1, I1, r1, q1⟩ => ?_
  dsimp only at q1
  split at q1
  · rename_i z
    unfold rIterS at q1
    obtain ⟨t, rfl⟩ := r1
    have fp : ∀ b ∈ [s1.heap.objs.size], FpOk X pins H1 b := fun b hb => by
      have e : b = s1.heap.objs.size := by simpa using hb
      subst e
      exact I1.fpOk (Nat.le_refl _) (I1.hok.fresh (Nat.le_refl _))
    refine wpAny_pyIter_strU ?_
    exact ⟨s1.heap.objs.size, [s1.heap.objs.size], _, _, H1, rfl, I1.kept (t' := s1.toks) fun b o e => Heap.get?_push_of_some _ e, turn_str z t _, ⟨_, Heap.get?_push_size _ rfl, rfl, rfl⟩, fp, q1⟩
  · exact q1.elim
theorem iterS_rd {x : Str} {H : Hp} {R : It → Hp → Prop} (q : R (Its x) H) : rIterS x H R := by unfold rIterS; exact q
theorem Wk.str {x : Str} {H1 : Hp} : Wk (Its x) x.cps.size H1 fun i v _ => ∃ c, x.cps[i]? = some c ∧ v = .str ⟨#[c]⟩ :=
  ⟨fun i H s hi => hi, fun H s => Nat.le_refl _, fun i H v H' s _ y => by
    obtain ⟨e, y⟩ := y
    subst e
    exact ⟨Same.refl _, y⟩⟩
/- a[lo:hi] of a text -/
noncomputable def rSlZM (K : PySem.W.Frag) : V → Option Int → Option Int → Hp → VK → Prop := fun x lo hi H Q => match x with
  | .ref a => rSlX K a lo hi H Q
  | .str z => z.length ≤ sizeLine ∧ Q (.str (Txt.slice z lo hi)) H
  | _ => False
theorem part_of {v : Value} {o : Option Int} (p : IsPart v o) : ∃ q : Option (Int × Tok), v = partValue q ∧ q.map (·.1) = o := by
  cases p with
  | none => exact ⟨none, rfl, rfl⟩
  | int i t => exact ⟨some (i, t), rfl, rfl⟩
theorem slZK (hK : X.K = K) : SlR X (rSlZM K) := by
  subst hK
  intro pins s σ H x v vl vu lo hi sl Q I rx hs pl pu h
  unfold rSlZM at h
  split at h
  · exact slX pins s σ H _ v vl vu lo hi sl Q I rx hs pl pu h
  · rename_i z
    obtain ⟨hz, q⟩ := h
    obtain ⟨t, rfl⟩ := rx
    obtain ⟨ql, rfl, el⟩ := part_of pl
    obtain ⟨qu, rfl, eu⟩ := part_of pu
    refine ⟨"str", _, slot_str_getitem.lookup, typeIs_str s z t, wpAny_getItem_str_slice (st := none) hs rfl ?_⟩
    unfold sliceMade slicePicked
    rw [el, eu]
    have le := Txt.slice_le z lo hi
    unfold Txt.slice at q le
    show Made.post (if (1 == 1 && (Builtin.Str.strSliceIndices lo hi 1 z.length).length == z.length) = true then _ else _) _ s
    split
    · rename_i c
      rw [if_pos c] at q
      exact ⟨.str z, H, I, ⟨_, rfl⟩, q⟩
    · rename_i c
      rw [if_neg c] at q le
      exact ⟨Nat.le_trans le hz, .str _, H, I.tok _, ⟨_, rfl⟩, q⟩
  · exact h.elim
/- y in x, both texts -/
noncomputable def hasS (x y : Str) : Bool := !(Builtin.Str.occurrences x y 0 x.length 1).isEmpty
noncomputable def rInZM (K : PySem.W.Frag) : R2 := fun x y H Q => match x, y with
  | .str a, .str b => Q (.bl (hasS b a)) H
  | x, y => rInM K false x y H Q
theorem oInZK (hK : X.K = K) : OpR X (compareOp .In) (rInZM K) := by
  intro pins s σ H x y v u Q I rx ry h
  unfold rInZM at h
  split at h
  · obtain ⟨t, rfl⟩ := rx
    obtain ⟨t', rfl⟩ := ry
    exact P.in_str ⟨.bl _, H, I, rfl, h⟩
  · exact oInK hK pins s σ H _ _ v u Q I rx ry h
/- int(x) of a text -/
@[irreducible] noncomputable def rIntT (x : Str) (H : Hp) (Q : VK) : Prop := ∃ n : Int, intText? x = some n ∧ x.length ≤ 640 ∧ Q (.int n) H
noncomputable def rIntTM : List V → Hp → VK → Prop := fun xs H Q => match xs with
  | [.str x] => rIntT x H Q
  | _ => False
theorem cIntT : CallR X (.type "int") rIntTM := fun pins s σ H xs us Q I r h => by
  unfold rIntTM at h
  split at h
  · unfold rIntT at h
    obtain ⟨n, h1, h2, q⟩ := h
    obtain ⟨u, rfl, r1⟩ := vals1 r
    obtain ⟨t, rfl⟩ := r1
    exact PySem.W.KIN.call_text h1 h2 ⟨.int n, H, I.tok _, ⟨_, rfl⟩, q⟩
  · exact h.elim
theorem intT_rd {x : Str} {H : Hp} {Q : VK} {n : Int} (h1 : intText? x = some n) (h2 : x.length ≤ 640) (q : Q (.int n) H) : rIntT x H Q := by unfold rIntT; exact ⟨n, h1, h2, q⟩
end
end L2

set_option Elab.async false
set_option linter.all false
set_option maxRecDepth 100000
set_option maxHeartbeats 2000000
namespace L2
open PySem PySem.Spec PyProof.Rows
/-! ### a def handed on as a value, and called by the name of what was handed in -/
section
variable {X : Cx} {K : PySem.W.Frag}
@[irreducible] noncomputable def isFn (mg : Str → Option Value) (x : Str) (v : V) : Prop := ∃ f, v = .ref f ∧ mg x = some (.ref f)
@[irreducible] noncomputable def rFn (mg : Str → Option Value) (x : Str) (H : Hp) (Q : VK) : Prop := ∀ v, isFn mg x v → Q v H
noncomputable def qFn (mg : Str → Option Value) (x : Str) : TE := fun _ H Q => rFn mg x H Q
theorem peFn {CX : CXT} {k : Nat} {x : Str} {ps : List Str} {sp : Sp} {pos : Pos} (F : Def X.prog X.w X.K X.mg X.base CX k x ps sp) (hg : Gl X x := by rfl) (hdb : (x == ("__debug__" : Str)) = false := by decide) : PE X (.Name x pos) (qFn X.mg x) := by
  obtain ⟨f, fd, F1, F2, F3, F4⟩ := F.ex
  intro pins s σ H Q I h
  unfold qFn rFn at h
  exact ld_glob I hg F2 ⟨.ref f, H, I, rfl, h _ (by unfold isFn; exact ⟨f, rfl, F2⟩)⟩ hdb
theorem fn_rd {mg : Str → Option Value} {x : Str} {H : Hp} {Q : VK} (q : ∀ v, isFn mg x v → Q v H) : rFn mg x H Q := by unfold rFn; exact q
noncomputable def qCallL (mg : Str → Option Value) (x : Str) (i : Nat) (sp : Sp) (E : XK) (t : TA) : TE := fun σ H Q => match σ[i]? with
  | some (some v) => isFn mg x v ∧ t σ H fun vs H1 => sp vs H1 Q E
  | _ => False
theorem pDL {CX : CXT} {k j i : Nat} {x y : Str} {ps : List Str} {sp : Sp} {E : XK} {p pos : Pos} {e : Expr} {es : List Expr} {t : TA} (F : Def X.prog X.w X.K X.mg X.base CX k x ps sp) (hr : Room j X.A) (hx : Passes CX X E) (ha : PA X (e :: es) t) (hk : k ≤ j := by decide)
    (hN : X.N[i]? = some y := by rfl) (hv : Vis X.env.scope y := by first | exact Or.inl rfl | exact Or.inr (Or.inl rfl) | exact Or.inr (Or.inr rfl)) (hd : (y == ("__debug__" : Str)) = false := by decide) (hcd : (y == ("__classdict__" : Str)) = false := by decide)
    (he : starEach (e :: es) X.env = (false, eval e X.env) :: starEach es X.env := by rfl) (hpl : (backTo pos (starEach es X.env)).any (·.1) = false := by rfl) :
    PE X (.Call (.Name y p) (e :: es) [] pos) (qCallL X.mg x i sp E t) := by
  obtain ⟨f, fd, F1, F2, F3, F4⟩ := F.ex
  intro pins s σ H Q I h
  unfold qCallL at h
  split at h
  · rename_i v ev
    obtain ⟨hf, h⟩ := h
    unfold isFn at hf
    obtain ⟨f', rfl, F2'⟩ := hf
    cases F2.symm.trans F2'
    obtain ⟨m, hn, hl⟩ := I.loc
    obtain ⟨u, r, l⟩ := hl i y _ hN ev hv
    obtain rfl : u = Value.ref f := r
    have fin : wpAny (model X.prog X.w) X.A (callWith pos (.ref f) [] (backTo pos (starEach (e :: es) X.env)) (backToKw pos (keywordEach [] X.env))) (EP X pins σ Q) X.xe s := by
      refine PySem.W.callWith_K (h₀ := X.base) I.ok.mod.kin F3 (thn (ha pos pins s σ H _ I h) fun us s1 ⟨vs, H1, I1, r, q⟩ => ⟨I1.kIn, ?_⟩) he hpl
      refine run_fn F1 (hr.mono hk) F4 .nil hx I1 r ?_
      simp only [List.append_nil]
      exact q
    refine wpAny_Call_Name_kw ?_
    rcases l with ⟨hk, hm⟩ | ⟨hk, c, hc, hcell⟩
    · exact wpAny_Name (wpAny_loadName_local I.ok.kind hk hn hm fin) hd
    · rcases hk with hk | hk
      · exact wpAny_Name (wpAny_loadName_cell I.ok.kind hk hc hcell fin) hd
      · exact wpAny_Name (wpAny_loadName_free I.ok.kind hk hc hcell fin hcd) hd
  · exact h.elim
/-! ### x in a tuple of tuples -/
@[irreducible] noncomputable def rInTT (K : PySem.W.Frag) (a p : Addr) (H : Hp) (Q : VK) : Prop := ∃ (rs : List Addr) (c : Addr → Bool) (n : Nat), SqT K H p (rs.map V.ref) ∧ n ≤ 38 ∧ (∀ r ∈ rs, EqR K H n (.ref r) (.ref a) (c r)) ∧ Q (.bl (rs.any c)) H
noncomputable def rInTTM (K : PySem.W.Frag) : R2 := fun x y H Q => match x, y with
  | .ref a, .ref p => rInTT K a p H Q
  | x, y => rInZM K x y H Q
theorem oInTTK (hK : X.K = K) (hu : X.A.units + 40 < cLine) : OpR X (compareOp .In) (rInTTM K) := by
  subst hK
  intro pins s σ H x y v u Q I rx ry h
  unfold rInTTM at h
  split at h
  · unfold rInTT at h
    obtain ⟨rs, c, n, h1, h2, h3, h4⟩ := h
    cases rx
    cases ry
    obtain ⟨its, r, pl, hz⟩ := I.tuple h1
    have e := vals_refs r
    subst e
    refine SeqAt.in_tupleAt (eRef c) pl (fun w hw => ?_) ⟨.bl _, H, I, rfl, ?_⟩
    · obtain ⟨q, hq, rfl⟩ := List.mem_map.mp (by simpa using hw)
      exact EqR.at I (h3 q hq) rfl rfl (by rw [in1_units]; omega)
    · have e2 : (rs.map Value.ref).toArray.any (eRef c) = rs.any c := by
        rw [List.any_toArray, List.any_map]; rfl
      rw [e2]
      exact h4
  · exact oInZK rfl pins s σ H _ _ v u Q I rx ry h
theorem inTT_rd {a p : Addr} {H : Hp} {Q : VK} {rs : List Addr} {c : Addr → Bool} (n : Nat) (h1 : H p = some (.tup (rs.map V.ref))) (h2 : n ≤ 38) (h3 : ∀ r ∈ rs, EqR K H n (.ref r) (.ref a) (c r)) (q : Q (.bl (rs.any c)) H) : rInTT K a p H Q := by unfold rInTT; exact ⟨rs, c, n, SqT.of h1, h2, h3, q⟩
end
end L2

set_option Elab.async false
set_option linter.all false
set_option maxRecDepth 100000
set_option maxHeartbeats 2000000
namespace L2
open PySem PySem.Spec PyProof.Rows
/-! ### a module's own table: texts for keys, ints behind them; TABLE.get(x) -/
section
variable {X : Cx} {K : PySem.W.Frag}
noncomputable def entS (w : World) (x : Str × Int × Tok × Tok) : DictEntry := ⟨PyData.keyHash w.params x.1, .str x.1 x.2.2.1, .int x.2.1 x.2.2.2⟩
structure TabS (w : World) (K : PySem.W.Frag) (mg : Str → Option Value) (n : Str) (kvs : List (Str × Int)) : Prop where
  ex : ∃ (a : Addr) (es : List (Str × Int × Tok × Tok)) (ep : Nat), mg n = some (.ref a) ∧ (a == sysModules) = false ∧ K.lookup a = some { cls := .type "dict", data := .dict (es.map (entS w)).toArray ep } ∧ es.map (fun x => (x.1, x.2.1)) = kvs ∧ (es.map (·.1)).Nodup
noncomputable def keyV (kvs : List (Str × Int)) : List (Key × V) := kvs.map fun x => (.inr x.1, .int x.2)
noncomputable def lookS (kvs : List (Str × Int)) (x : Str) : V := (valV (keyV kvs) (.inr x)).getD .non
noncomputable def qGetC (kvs : List (Str × Int)) (te : TE) : TE := fun σ H Q => te σ H fun y H1 => match y with
  | .str x => Q (lookS kvs x) H1
  | _ => False
theorem pairs_of (P : Program) (w : World) : ∀ es : List (Str × Int × Tok × Tok), Pairs (mixKind P w) (es.map (entS w)) (es.map fun x => ((.inr x.1 : Key), Value.int x.2.1 x.2.2.2))
  | [] => .nil
  | x :: es => .cons (mixKind_str P w x.1 x.2.2.1) rfl (pairs_of P w es)
theorem kv_of : ∀ es : List (Str × Int × Tok × Tok), KV (keyV (es.map fun x => (x.1, x.2.1))) (es.map fun x => ((.inr x.1 : Key), Value.int x.2.1 x.2.2.2))
  | [] => .nil
  | x :: es => .cons ⟨rfl, _, rfl⟩ (kv_of es)
theorem inr_nodup : ∀ {xs : List Str}, xs.Nodup → (xs.map (Sum.inr : Str → Key)).Nodup
  | [], _ => List.nodup_nil
  | x :: xs, h => by
    rw [List.nodup_cons] at h
    rw [List.map_cons, List.nodup_cons]
    refine ⟨fun hx => ?_, inr_nodup h.2⟩
    obtain ⟨y, hy, e⟩ := List.mem_map.mp hx
    cases e
    exact h.1 hy
theorem peGetC {n : Str} {kvs : List (Str × Int)} {e : Expr} {te : TE} {p apos cpos : Pos} (T : TabS X.w X.K X.mg n kvs) (he : PE X e te) (hg : Gl X n := by rfl) (hdb : (n == ("__debug__" : Str)) = false := by decide)
    (m1 : attributeBase (.Name n p) "get" X.env (eval (.Name n p) X.env) = eval (.Name n p) X.env := by rfl)
    (m2 : ((backTo cpos (starEach [e] X.env)).all (fun x => !x.1) && (backToKw cpos (keywordEach [] X.env)).all (fun x => x.1.isSome) && decide (([e] : List Expr).length + ([] : List Keyword).length + (if ([] : List Keyword).isEmpty then 0 else 1) < 30)) = true := by rfl)
    (m3 : (apos.endLine == cpos.line) = true := by rfl) (m4 : backTo cpos (starEach [e] X.env) = [(false, eval e X.env)] := by rfl) : PE X (.Call (.Attribute (.Name n p) "get" apos) [e] [] cpos) (qGetC kvs te) := by
  obtain ⟨a, es, ep, g1, g2, g3, rfl, g5⟩ := T.ex
  intro pins s σ H Q I h
  have dd : ∀ {s' : Shared} {H' : Hp}, Inv X pins σ H' s' → s'.heap.DictOf (mixKind X.prog X.w) a (es.map fun x => ((.inr x.1 : Key), Value.int x.2.1 x.2.2.2)) := fun {s' H'} I' => by
    refine ⟨_, _, ep, I'.kIn a _ g3, ⟨rfl, rfl, rfl⟩, rfl, fun e' he' => ?_, by simpa using pairs_of X.prog X.w es, ?_⟩
    · rw [List.mem_toArray] at he'
      obtain ⟨x, hx, rfl⟩ := List.mem_map.mp he'
      exact ⟨.inr x.1, mixKind_str _ _ _ _, rfl⟩
    · rw [List.map_map]
      have := inr_nodup g5
      rw [List.map_map] at this
      exact this
  refine wpAny_Call_method m1 m2 m3 PySem.F.plainAttrs_dict PySem.F.slot_dict_get PySem.F.type_dict_get (ld_glob I hg g1 ?_ hdb)
  refine ⟨(dd I).typeIs, fun b q => ?_, ?_⟩
  · cases q
    exact ⟨_, I.kIn a _ g3, rfl⟩
  rw [m4]
  refine Calls.callWith_builtin rfl (Calls.evalArgs_plain (Calls.spliced_cons (thn (he pins s σ H _ I h) fun iv s2 ⟨y, H2, I2, ry, q2⟩ => Calls.spliced_nil ?_)))
  dsimp only at q2
  split at q2
  · rename_i x
    refine call_meetsIn PySem.F.slot_dict_get (dd I2).typeIs PySem.F.entry_dict_get (PySem.F.args_dict_get_2 _ _) (meets_dict_get (mixKind X.prog X.w) a (k := .inr x) (kV_is ry) g2) ⟨_, (dd I2).mapOf, lookS _ x, H2, I2.tok _, ?_, q2⟩
    exact ((kv_of es).val (.inr x)).getD rfl
  · exact q2.elim
theorem tabS_mk {w : World} {K : PySem.W.Frag} {h : Heap} {mg : Str → Option Value} {n : Str} {a : Addr} {es : List (Str × Int × Tok × Tok)} {ep : Nat} (X : K.In h) (G : h.Ns mainGlobals mg) (g1 : PySem.W.nsIn K mainGlobals n = some (some (.ref a))) (g2 : (a == sysModules) = false) (g3 : K.lookup a = some { cls := .type "dict", data := .dict (es.map (entS w)).toArray ep }) (g5 : (es.map (·.1)).Nodup) : TabS w K mg n (es.map fun x => (x.1, x.2.1)) :=
  ⟨a, es, ep, PySem.W.mg_of X G g1, g2, g3, rfl, g5⟩
end
end L2

set_option Elab.async false
set_option linter.all false
set_option maxRecDepth 100000
set_option maxHeartbeats 2000000
namespace L2
open PySem PySem.Spec PyProof.Rows
/-! ### a <= b <= c as a test -/
section
variable {X : Cx} {a b c : Expr} {ta tb tc : TE} {pos : Pos}
noncomputable def qChainT (r r' : R2) (ta tb tc : TE) : TT := fun σ H Q => ta σ H fun x H1 => tb σ H1 fun y H2 => r x y H2 fun z H3 => match z with
  | .bl k => br k (tc σ H3 fun w' H4 => r' y w' H4 fun z' H5 => match z' with
    | .bl k' => Q k' H5
    | _ => False) (Q false H3)
  | _ => False
theorem ptChain {op op' : CmpOp} {r r' : R2} (ho : OpR X (compareOp op) r) (ho' : OpR X (compareOp op') r') (ha : PE X a ta) (hb : PE X b tb) (hc : PE X c tc)
    (hm : lastMarks [op, op'] [b, c] = false := by with_unfolding_all rfl) : PT X (.Compare a [op, op'] [b, c] pos) (qChainT r r' ta tb tc) := by
  intro pins s σ H Q I h
  refine isTrue_chain (thn (ha pins s σ H _ I h) fun v s1 ⟨x, H1, I1, r1, q1⟩ => test_link (thn (hb pins s1 σ H1 _ I1 q1) fun u s2 ⟨y, H2, I2, r2, q2⟩ =>
    thn (ho pins s2 σ H2 x y v u _ I2 r1 r2 q2) fun d s3 ⟨z, H3, I3, r3, q3⟩ => ?_)) hm
  dsimp only at q3
  split at q3
  · rename_i k
    cases r3
    refine wpAny_truthy_bool ?_
    rw [br_iff] at q3
    cases k with
    | false => exact ite_ff ⟨H3, I3, by simpa using q3⟩
    | true =>
      have q3 : tc σ H3 (fun w' H4 => r' y w' H4 fun z' H5 => match z' with
        | .bl k' => Q k' H5
        | _ => False) := by simpa using q3
      refine ite_tt (test_last (thn (hc pins s3 σ H3 _ I3 q3) fun w' s4 ⟨z', H4, I4, r4, q4⟩ => thn (ho' pins s4 σ H4 y z' u w' _ I4 r2 r4 q4) fun d' s5 ⟨z5, H5, I5, r5, q5⟩ => ?_))
      dsimp only at q5
      split at q5
      · cases r5
        exact wpAny_truthy_bool ⟨H5, I5, q5⟩
      · exact q5.elim
  · exact q3.elim
end
/-! ### texts put together and taken apart again -/
theorem first_eq {c : Nat} : ∀ {a b A B : List Nat}, c ∉ a → c ∉ b → a ++ c :: A = b ++ c :: B → a = b ∧ A = B
  | [], [], A, B, _, _, h => by
    cases h
    exact ⟨rfl, rfl⟩
  | [], y :: b, A, B, _, hb, h => by
    have : c = y := by injection h
    exact absurd (by rw [this]; exact List.mem_cons_self) hb
  | x :: a, [], A, B, ha, _, h => by
    have : x = c := by injection h
    exact absurd (by rw [← this]; exact List.mem_cons_self) ha
  | x :: a, y :: b, A, B, ha, hb, h => by
    have h : x :: (a ++ c :: A) = y :: (b ++ c :: B) := h
    injection h with h1 h2
    obtain ⟨e1, e2⟩ := first_eq (a := a) (b := b) (fun z => ha (List.mem_cons_of_mem _ z)) (fun z => hb (List.mem_cons_of_mem _ z)) h2
    exact ⟨by rw [h1, e1], e2⟩
theorem join_cons_list (c : Nat) (a b : Str) (r : List Str) : ((⟨#[c]⟩ : Str).join (a :: b :: r)).cps.toList = a.cps.toList ++ c :: ((⟨#[c]⟩ : Str).join (b :: r)).cps.toList := by
  rw [Str.join.eq_3 _ _ _ (by simp), PySem.W.KT.app_list, PySem.W.KT.app_list]
  simp
theorem join_inj {c : Nat} : ∀ {as bs : List Str}, as ≠ [] → bs ≠ [] → (∀ a ∈ as, c ∉ a.cps.toList) → (∀ b ∈ bs, c ∉ b.cps.toList) → (⟨#[c]⟩ : Str).join as = (⟨#[c]⟩ : Str).join bs → as = bs
  | [], _, h, _, _, _, _ => absurd rfl h
  | _, [], _, h, _, _, _ => absurd rfl h
  | [a], [b], _, _, _, _, h => by
    rw [Str.join.eq_2, Str.join.eq_2] at h
    rw [h]
  | [a], b :: b2 :: bs, _, _, ha, _, h => by
    have h := congrArg (fun x : Str => x.cps.toList) h
    rw [join_cons_list, Str.join.eq_2] at h
    exact absurd (by rw [h]; simp) (ha a List.mem_cons_self)
  | a :: a2 :: as, [b], _, _, _, hb, h => by
    have h := congrArg (fun x : Str => x.cps.toList) h
    rw [join_cons_list, Str.join.eq_2] at h
    exact absurd (by rw [← h]; simp) (hb b List.mem_cons_self)
  | a :: a2 :: as, b :: b2 :: bs, _, _, ha, hb, h => by
    have h := congrArg (fun x : Str => x.cps.toList) h
    rw [join_cons_list, join_cons_list] at h
    obtain ⟨e1, e2⟩ := first_eq (ha a List.mem_cons_self) (hb b List.mem_cons_self) h
    have e3 := join_inj (as := a2 :: as) (bs := b2 :: bs) (by simp) (by simp) (fun x hx => ha x (List.mem_cons_of_mem _ hx)) (fun x hx => hb x (List.mem_cons_of_mem _ hx)) (ext_toList e2)
    rw [ext_toList e1, e3]
/-- what was joined by a sign that stands in none of it is taken apart again -/
theorem split_join {c : Nat} {ws : List Str} (hn : ws ≠ []) (h : ∀ w ∈ ws, c ∉ w.cps.toList) : Txt.split (Txt.join ⟨#[c]⟩ ws) ⟨#[c]⟩ = ws := by
  have e : Txt.join ⟨#[c]⟩ ws = (⟨#[c]⟩ : Str).join ws := StrLaws.glued_eq_join _ _
  have l := split_pos (Txt.join ⟨#[c]⟩ ws) ⟨#[c]⟩
  refine join_inj (fun z => by rw [z] at l; exact absurd l (by decide)) hn (fun p hp => StrLaws.split_free _ c p hp) h ?_
  rw [StrLaws.join_split, e]
theorem join0_list : ∀ xs : List Str, ((⟨#[]⟩ : Str).join xs).cps.toList = (xs.map fun x => x.cps.toList).flatten
  | [] => rfl
  | [x] => by rw [Str.join.eq_2]; simp
  | x :: y :: r => by
    rw [Str.join.eq_3 _ _ _ (by simp), PySem.W.KT.app_list, PySem.W.KT.app_list, join0_list (y :: r)]
    simp
theorem joinE_list (c : Nat) : ∀ xs : List Str, ((⟨#[c]⟩ : Str).join (xs ++ [⟨#[]⟩])).cps.toList = (xs.map fun x => x.cps.toList ++ [c]).flatten
  | [] => rfl
  | [x] => by
    rw [show [x] ++ [(⟨#[]⟩ : Str)] = x :: ⟨#[]⟩ :: [] from rfl, join_cons_list, Str.join.eq_2]
    simp
  | x :: y :: r => by
    rw [show x :: y :: r ++ [(⟨#[]⟩ : Str)] = x :: y :: (r ++ [⟨#[]⟩]) from rfl, join_cons_list, show y :: (r ++ [(⟨#[]⟩ : Str)]) = y :: r ++ [⟨#[]⟩] from rfl, joinE_list c (y :: r)]
    simp
/-- rows, each with a line end, taken apart at the line ends -/
theorem split_rows {c : Nat} {xs : List Str} (h : ∀ w ∈ xs, c ∉ w.cps.toList) : Txt.split (Txt.join ⟨#[]⟩ (xs.map fun x => x ++ (⟨#[c]⟩ : Str))) ⟨#[c]⟩ = xs ++ [⟨#[]⟩] := by
  have e : Txt.join ⟨#[]⟩ (xs.map fun x => x ++ (⟨#[c]⟩ : Str)) = Txt.join ⟨#[c]⟩ (xs ++ [⟨#[]⟩]) := by
    refine ext_toList ?_
    rw [show Txt.join ⟨#[]⟩ (xs.map fun x => x ++ (⟨#[c]⟩ : Str)) = (⟨#[]⟩ : Str).join _ from StrLaws.glued_eq_join _ _, show Txt.join ⟨#[c]⟩ (xs ++ [⟨#[]⟩]) = (⟨#[c]⟩ : Str).join _ from StrLaws.glued_eq_join _ _, join0_list, joinE_list, List.map_map]
    congr 1
    refine List.map_congr_left fun x _ => ?_
    show (x ++ (⟨#[c]⟩ : Str)).cps.toList = _
    rw [PySem.W.KT.app_list]
  rw [e]
  refine split_join (by simp) fun w hw => ?_
  rcases List.mem_append.mp hw with hw | hw
  · exact h w hw
  · rw [List.mem_singleton.mp hw]; simp
/-! ### numbers as texts -/
noncomputable def numS (n : Int) : Str := Str.ofString (toString n)
theorem numS_nat (m : Nat) : (numS m).cps.toList = (Nat.toDigits 10 m).map Char.toNat := PySem.W.KIN.signs_num m
theorem dig_nat (m : Nat) : ∀ c ∈ (Nat.toDigits 10 m).map Char.toNat, 48 ≤ c ∧ c ≤ 57 := fun c hc => by
  obtain ⟨ch, hch, rfl⟩ := List.mem_map.mp hc
  exact digit_range (Nat.isDigit_of_mem_toDigits (by decide) (by decide) hch)
theorem dig_ne (m : Nat) : (Nat.toDigits 10 m).map Char.toNat ≠ [] := fun e => by
  have h := toDigits_len_ge 10 m
  rw [List.map_eq_nil_iff.mp e] at h
  exact absurd h (by decide)
theorem numS_neg {n : Int} (h : n < 0) : (numS n).cps.toList = 45 :: (numS (0 - n)).cps.toList := by
  unfold numS
  rw [toString_neg h, Str.ofString_eq_toList, Str.ofString_eq_toList]
  simp
/-- the figures: no nought ahead but for nought itself -/
theorem dig_lead {m : Nat} {r : List Nat} (h : (Nat.toDigits 10 m).map Char.toNat = 48 :: r) : r = [] := by
  have v := PySem.W.KIN.val_back m
  have t := NumText.toDigits_all ((Nat.toDigits 10 m).map Char.toNat) (dig_nat m)
  rw [v] at t
  have l := congrArg List.length h
  rw [List.length_map, List.length_cons] at l
  rw [h] at t
  rw [show List.dropWhile (fun x => x == 48) (48 :: r) = List.dropWhile (fun x => x == 48) r from rfl] at t
  have dl := (List.dropWhile_suffix (fun x => x == 48) (l := r)).length_le
  cases e : List.dropWhile (fun x => x == 48) r with
  | nil =>
    rw [e] at t
    have t : Nat.toDigits 10 m = ['0'] := t
    rw [t] at l
    exact List.length_eq_zero_iff.mp (by simpa using l.symm)
  | cons c q =>
    rw [e] at t dl
    have t : Nat.toDigits 10 m = List.map Char.ofNat (c :: q) := t
    rw [t, List.length_map] at l
    omega
theorem numS_reads {n : Int} (h : (numS n).length ≤ 640) : intText? (numS n) = some n := by
  have pos : ∀ m : Nat, (numS m).length ≤ 4300 → intText? (numS m) = some (m : Int) := fun m hl => by
    have e := intText_digits (x := numS m) (by rw [numS_nat]; exact dig_nat m) (by rw [numS_nat]; exact dig_ne m) hl
    rw [numS_nat, PySem.W.KIN.val_back] at e
    exact e
  rcases Int.lt_or_le n 0 with hn | hn
  · obtain ⟨m, hm⟩ := Int.eq_ofNat_of_zero_le (show 0 ≤ 0 - n by omega)
    have e := numS_neg hn
    rw [hm, numS_nat] at e
    have r := intText_neg e (dig_nat m) (dig_ne m) (Nat.le_trans h (by decide))
    rw [r, PySem.W.KIN.val_back]
    congr 1
    omega
  · obtain ⟨m, rfl⟩ := Int.eq_ofNat_of_zero_le hn
    exact pos m (Nat.le_trans h (by decide))
end L2

set_option Elab.async false
set_option linter.all false
set_option maxRecDepth 100000
set_option maxHeartbeats 1000000
namespace G
open PySem L2
noncomputable def top (i : Nat) : Stmt := PySem.Challenge.pw_hostfields_k77_papers_written.main.body.getD i (.Pass ⟨0, 0, 0, 0⟩)
noncomputable abbrev s_paper_text : Stmt := top 7
theorem sc_paper_text : FnScope ["paper"] ["paper"] (defScope s_paper_text) := ⟨rfl, rfl, rfl, by decide +kernel, rfl, by decide +kernel, by decide +kernel⟩
noncomputable abbrev s_text_of : Stmt := top 8
theorem sc_text_of : FnScope ["rows"] ["rows"] (defScope s_text_of) := ⟨rfl, rfl, rfl, by decide +kernel, rfl, by decide +kernel, by decide +kernel⟩
noncomputable abbrev s_row_text : Stmt := top 9
theorem sc_row_text : FnScope ["row"] ["row"] (defScope s_row_text) := ⟨rfl, rfl, rfl, by decide +kernel, rfl, by decide +kernel, by decide +kernel⟩
noncomputable abbrev s_flow_rows : Stmt := top 10
theorem sc_flow_rows : FnScope ["stream", "rows", "field", "flows"] ["stream"] (defScope s_flow_rows) := ⟨rfl, rfl, rfl, by decide +kernel, rfl, by decide +kernel, by decide +kernel⟩
noncomputable abbrev s_number_rows : Stmt := top 11
theorem sc_number_rows : FnScope ["table", "rows", "field", "numbers"] ["table"] (defScope s_number_rows) := ⟨rfl, rfl, rfl, by decide +kernel, rfl, by decide +kernel, by decide +kernel⟩
noncomputable abbrev s_read_paper : Stmt := top 12
theorem sc_read_paper : FnScope ["text", "rows", "flows", "numbers"] ["text"] (defScope s_read_paper) := ⟨rfl, rfl, rfl, by decide +kernel, rfl, by decide +kernel, by decide +kernel⟩
noncomputable abbrev s_by_fields : Stmt := top 13
theorem sc_by_fields : FnScope ["pairs", "lists", "field", "thing"] ["pairs"] (defScope s_by_fields) := ⟨rfl, rfl, rfl, by decide +kernel, rfl, by decide +kernel, by decide +kernel⟩
noncomputable abbrev s_read_rows : Stmt := top 14
theorem sc_read_rows : FnScope ["text", "stands", "pieces", "rows", "ahead", "number", "piece", "row"] ["text", "stands"] (defScope s_read_rows) := ⟨rfl, rfl, rfl, by decide +kernel, rfl, by decide +kernel, by decide +kernel⟩
noncomputable abbrev s_read_row : Stmt := top 15
theorem sc_read_row : FnScope ["piece", "words"] ["piece"] (defScope s_read_row) := ⟨rfl, rfl, rfl, by decide +kernel, rfl, by decide +kernel, by decide +kernel⟩
noncomputable abbrev s_has_wanted : Stmt := top 16
theorem sc_has_wanted : FnScope ["word", "many"] ["word", "many"] (defScope s_has_wanted) := ⟨rfl, rfl, rfl, by decide +kernel, rfl, by decide +kernel, by decide +kernel⟩
noncomputable abbrev s_is_number : Stmt := top 17
theorem sc_is_number : FnScope ["word", "figures"] ["word"] (defScope s_is_number) := ⟨rfl, rfl, rfl, by decide +kernel, rfl, by decide +kernel, by decide +kernel⟩
noncomputable abbrev s_stands_in_paper : Stmt := top 18
theorem sc_stands_in_paper : FnScope ["ahead", "row"] ["ahead", "row"] (defScope s_stands_in_paper) := ⟨rfl, rfl, rfl, by decide +kernel, rfl, by decide +kernel, by decide +kernel⟩
noncomputable abbrev s_flow_stands : Stmt := top 19
theorem sc_flow_stands : FnScope ["ahead", "row"] ["ahead", "row"] (defScope s_flow_stands) := ⟨rfl, rfl, rfl, by decide +kernel, rfl, by decide +kernel, by decide +kernel⟩
noncomputable abbrev s_number_stands : Stmt := top 20
theorem sc_number_stands : FnScope ["ahead", "row", "place"] ["ahead", "row"] (defScope s_number_stands) := ⟨rfl, rfl, rfl, by decide +kernel, rfl, by decide +kernel, by decide +kernel⟩
noncomputable abbrev s__law_stirred : Stmt := top 22
theorem sc__law_stirred : FnScope ["_law_number", "_law_k", "_law_mixed"] ["_law_number", "_law_k"] (defScope s__law_stirred) := ⟨rfl, rfl, rfl, by decide +kernel, rfl, by decide +kernel, by decide +kernel⟩
noncomputable abbrev s__law_opened : Stmt := top 23
theorem sc__law_opened : FnScope ["_law_cell"] ["_law_cell"] (defScope s__law_opened) := ⟨rfl, rfl, rfl, by decide +kernel, rfl, by decide +kernel, by decide +kernel⟩
noncomputable abbrev s__law_draw : Stmt := top 24
theorem sc__law_draw : FnScope ["_law_left", "_law_base", "_law_digit", "_law_number", "_law_turn", "_law_mixed"] ["_law_left", "_law_base"] (defScope s__law_draw) := ⟨rfl, rfl, rfl, by decide +kernel, rfl, by decide +kernel, by decide +kernel⟩
noncomputable abbrev s__law_drawn_plan : Stmt := top 25
theorem sc__law_drawn_plan : FnScope ["_law_left", "_law_hosts", "_law_many", "_law_found", "_law_rest", "_law_k", "_law_sent"] ["_law_left", "_law_hosts", "_law_many"] (defScope s__law_drawn_plan) := ⟨rfl, rfl, rfl, by decide +kernel, rfl, by decide +kernel, by decide +kernel⟩
noncomputable abbrev s__law_drawn_mix : Stmt := top 26
theorem sc__law_drawn_mix : FnScope ["_law_left", "_law_hosts", "_law_many", "_law_most", "_law_found", "_law_k", "_law_weight"] ["_law_left", "_law_hosts", "_law_many", "_law_most"] (defScope s__law_drawn_mix) := ⟨rfl, rfl, rfl, by decide +kernel, rfl, by decide +kernel, by decide +kernel⟩
noncomputable abbrev s__law_flowing : Stmt := top 27
theorem sc__law_flowing : FnScope ["_law_mix", "_law_found", "_law_k", "_law_flows", "_law_plan", "_law_weight", "_law_key"] ["_law_mix"] (defScope s__law_flowing) := ⟨rfl, rfl, rfl, by decide +kernel, rfl, by decide +kernel, by decide +kernel⟩
noncomputable abbrev s__law_drawn_paper : Stmt := top 28
theorem sc__law_drawn_paper : FnScope ["_law_left", "_law_far", "_law_stream", "_law_k", "_law_row", "_law_part", "_law_come", "_law_flow", "_law_table", "_law_wide", "_law_near"] ["_law_left"] (defScope s__law_drawn_paper) := ⟨rfl, rfl, rfl, by decide +kernel, rfl, by decide +kernel, by decide +kernel⟩
noncomputable abbrev s__law_rows_of : Stmt := top 29
theorem sc__law_rows_of : FnScope ["_law_paper", "_law_rows", "_law_k", "_law_flows", "_law_come", "_law_sent", "_law_flow", "_law_numbers", "_law_count", "_law_number"] ["_law_paper"] (defScope s__law_rows_of) := ⟨rfl, rfl, rfl, by decide +kernel, rfl, by decide +kernel, by decide +kernel⟩
noncomputable abbrev s__law_plainly : Stmt := top 30
theorem sc__law_plainly : FnScope ["_law_told"] ["_law_told"] (defScope s__law_plainly) := ⟨rfl, rfl, rfl, by decide +kernel, rfl, by decide +kernel, by decide +kernel⟩
noncomputable abbrev s__law_formed : Stmt := top 31
theorem sc__law_formed : FnScope ["_law_left", "_law_hosts", "_law_many", "_law_wide", "_law_table"] ["_law_left"] (defScope s__law_formed) := ⟨rfl, rfl, rfl, by decide +kernel, rfl, by decide +kernel, by decide +kernel⟩
noncomputable abbrev s__law_marked : Stmt := top 32
theorem sc__law_marked : FnScope ["_law_thing", "_law_part"] ["_law_thing"] (defScope s__law_marked) := ⟨rfl, rfl, rfl, by decide +kernel, rfl, by decide +kernel, by decide +kernel⟩
noncomputable abbrev s__law_once : Stmt := top 33
theorem sc__law_once : FnScope ["_law_thing", "_law_part"] ["_law_thing"] (defScope s__law_once) := ⟨rfl, rfl, rfl, by decide +kernel, rfl, by decide +kernel, by decide +kernel⟩
noncomputable abbrev s__law_right : Stmt := top 34
theorem sc__law_right : FnScope ["_law_paper", "_law_handed", "_law_text", "_law_turn", "_law_told"] ["_law_paper"] (defScope s__law_right) := ⟨rfl, rfl, rfl, by decide +kernel, rfl, by decide +kernel, by decide +kernel⟩
noncomputable abbrev s_law : Stmt := top 35
theorem sc_law : FnScope ["_law_script", "_law_cell", "_law_left", "_law_formed_here", "_law_handed", "_law_due", "_law_told"] ["_law_script"] (defScope s_law) := ⟨rfl, rfl, rfl, by decide +kernel, rfl, by decide +kernel, by decide +kernel⟩
theorem nb_0 : (["word"] : List Str).Nodup := by decide +kernel
theorem nb_1 : (["row"] : List Str).Nodup := by decide +kernel
theorem nb_2 : (["left", "sent", "flow", "field"] : List Str).Nodup := by decide +kernel
theorem nb_3 : (["count", "number", "field"] : List Str).Nodup := by decide +kernel
theorem nb_4 : (["sign"] : List Str).Nodup := by decide +kernel
theorem nb_5 : (["word"] : List Str).Nodup := by decide +kernel
theorem nb_6 : (["row"] : List Str).Nodup := by decide +kernel
theorem nb_7 : (["_law_key", "_law_flows"] : List Str).Nodup := by decide +kernel
theorem nb_8 : (["_law_count", "_law_left", "_law_near"] : List Str).Nodup := by decide +kernel
theorem nb_9 : (["_law_one"] : List Str).Nodup := by decide +kernel
theorem nb_10 : (["_law_k", "_law_wide", "_law_left"] : List Str).Nodup := by decide +kernel
theorem nb_11 : (["_law_count", "_law_left"] : List Str).Nodup := by decide +kernel
theorem nb_12 : (["_law_row"] : List Str).Nodup := by decide +kernel
theorem nb_13 : (["_law_row"] : List Str).Nodup := by decide +kernel
structure Nm (mg : Str → Option Value) : Prop where
  all_ : mg "all" = none
  bool_ : mg "bool" = none
  enumerate_ : mg "enumerate" = none
  int_ : mg "int" = none
  isinstance_ : mg "isinstance" = none
  len_ : mg "len" = none
  list_ : mg "list" = none
  range_ : mg "range" = none
  sorted_ : mg "sorted" = none
  str_ : mg "str" = none
  sum_ : mg "sum" = none
  tuple_ : mg "tuple" = none
/-! ### how a promise is read -/
local macro_rules | `(tactic| walk_at "hp") => `(tactic| first | assumption | (refine Same.at (H := ?H) ?s ?e; (case s => assumption); (case e => walk_at "hp")) | (refine Chg.at (a := ?a) (H := ?H) ?c ?e ?n; (case c => assumption); (case n => walk_at "ne"); (case e => walk_at "hp")) | fail "hp")
local macro_rules | `(tactic| walk_at "ne") => `(tactic| first | assumption | (apply Ne.symm; assumption) | fail "ne")
local macro_rules | `(tactic| walk_at "wh") => `(tactic| (conv => whnf))
local macro_rules | `(tactic| walk_at "st") => `(tactic| (conv => whnf); first
  | refine mulR_rd (by omega) (by omega) ?_
  | refine mulL_rd (by omega) (by omega) ?_
  | refine modG_rd (by omega) (fun r h0 h1 => ?_)
  | refine div_rd (by omega) (by omega) ?_
  | (refine pow_rd ⟨by decide, by decide, by decide⟩ ?_; simp only [Int.reduceToNat, Int.reducePow])
  | (refine ixT_rd (xs := ?xs) (v := ?v) ?hp ?ev ?_; (case hp => walk_at "hp"); (case ev => rfl))
  | (refine ixL_rd (xs := ?xs) (v := ?v) ?hp ?ev ?_; (case hp => walk_at "hp"); (case ev => rfl))
  | refine newT_rd (fun p H' hf hs ha => ?_)
  | refine newL_rd (fun p H' hf hs ha => ?_)
  | refine isiI_rd ?_
  | (refine isiT_rd (xs := ?xs) ?hp ?_; (case hp => walk_at "hp"))
  | (refine isiL_rd (xs := ?xs) ?hp ?_; (case hp => walk_at "hp"))
  | (refine lenT_rd (xs := ?xs) ?hp ?_; (case hp => walk_at "hp"))
  | (refine lenL_rd (xs := ?xs) ?hp ?_; (case hp => walk_at "hp"))
  | refine isiB_rd ?_
  | refine br_T ?_
  | refine br_F ?_
  | refine br_dT (by omega) ?_
  | refine br_dF (by omega) ?_
  | fail "st")
/-! ### counts by caps: the mathematics -/
/-- one cap more -/
noncomputable def stp (g : Nat → Nat → Int) (c : Nat) : Nat → Nat → Int
  | 0, t => g 0 t
  | f + 1, t => g (f + 1) t + if c ≤ t then stp g c f (t - c) else 0
noncomputable def g0 (f t : Nat) : Int := if f = 0 ∧ t = 0 then 1 else 0
/-! ### counts by their numbers: the mathematics -/
/-! ### plans by numbers: the program -/
noncomputable def pl (ns : List Nat) : List V := ns.map fun (n : Nat) => V.int (n : Int)
noncomputable def il (ns : List Nat) : List Int := ns.map fun (n : Nat) => (n : Int)
local macro_rules | `(tactic| walk_at "om") => `(tactic| first | decide | omega)
section
variable {P : Program} {w : World} {K : PySem.W.Frag} {mg : Str → Option Value} {base : Heap} 
/-! ### a heap without one thing, the new part of a heap -/
noncomputable def rm (p : Addr) (H : Hp) : Hp := fun b => if b = p then none else H b
noncomputable def nw (H H' : Hp) : Hp := fun b => match H b with
  | none => H' b
  | some _ => none
theorem rm_at {p b : Addr} {H : Hp} {o : HO} (n : b ≠ p) (h : H b = some o) : rm p H b = some o := by unfold rm; rw [if_neg n]; exact h
theorem rm_of {p b : Addr} {H : Hp} {o : HO} (h : rm p H b = some o) : b ≠ p ∧ H b = some o := by
  unfold rm at h
  by_cases e : b = p
  · rw [if_pos e] at h; cases h
  · rw [if_neg e] at h; exact ⟨e, h⟩
theorem nw_at {b : Addr} {H H' : Hp} {o : HO} (n : H b = none) (h : H' b = some o) : nw H H' b = some o := by unfold nw; rw [n]; exact h
theorem nw_of {b : Addr} {H H' : Hp} {o : HO} (h : nw H H' b = some o) : H b = none ∧ H' b = some o := by
  unfold nw at h
  cases e : H b with
  | none => rw [e] at h; exact ⟨rfl, h⟩
  | some v => rw [e] at h; cases h
theorem rm_same (p : Addr) (H : Hp) : Same (rm p H) H := fun b o h => (rm_of h).2
theorem nw_same (H H' : Hp) : Same (nw H H') H' := fun b o h => (nw_of h).2
theorem Same.rm {p : Addr} {H H' : Hp} (s : Same H H') : Same (rm p H) (G.rm p H') := fun b o h => rm_at (rm_of h).1 (s _ _ (rm_of h).2)
theorem Chg.rm {p : Addr} {H H' : Hp} (s : Chg p H H') : Same (rm p H) (G.rm p H') := fun b o h => rm_at (rm_of h).1 (s _ _ (rm_of h).1 (rm_of h).2)
theorem nw_up {H H' H'' : Hp} (s : Same H' H'') : Same (nw H H') (nw H H'') := fun b o h => nw_at (nw_of h).1 (s _ _ (nw_of h).2)
theorem nw_rm {p : Addr} {o : HO} {H H' : Hp} (hp : H p = some o) : Same (nw H H') (rm p H') := fun b o h => rm_at (fun z => by have := (nw_of h).1; rw [z, hp] at this; cases this) (nw_of h).2
/-! ### rows of texts -/
noncomputable abbrev Rw := Str × List Int
noncomputable def blank : Str := ⟨#[32]⟩
noncomputable def lineE : Str := ⟨#[10]⟩
noncomputable def rtext (r : Rw) : Str := Txt.join blank (r.1 :: r.2.map numS)
noncomputable def textR (rs : List Rw) : Str := Txt.join ⟨#[]⟩ (rs.map fun r => rtext r ++ lineE)
/-- a row as a tuple -/
noncomputable def RwT (H : Hp) (p : Addr) (r : Rw) : Prop := H p = some (.tup (.str r.1 :: r.2.map V.int))
structure RwsAt (H : Hp) (l : Addr) (ps : List Addr) (rs : List Rw) : Prop where
  out : H l = some (.lst (ps.map V.ref))
  len : ps.length = rs.length
  row : ∀ (i : Nat) p r, ps[i]? = some p → rs[i]? = some r → RwT H p r
theorem RwsAt.same {H H' : Hp} {l : Addr} {ps : List Addr} {rs : List Rw} (R : RwsAt H l ps rs) (s : Same H H') : RwsAt H' l ps rs := ⟨s _ _ R.out, R.len, fun i p r e1 e2 => s _ _ (R.row i p r e1 e2)⟩
/-- numbers of at most fifty figures, words of at most ten signs -/
noncomputable def SmI (n : Int) : Prop := -(10 ^ 50) ≤ n ∧ n ≤ 10 ^ 50
structure OkR (r : Rw) : Prop where
  w : r.1.length ≤ 10
  l : r.2.length ≤ 200
  n : ∀ n ∈ r.2, SmI n
  t : (reprText r.1).length ≤ 100
theorem SmI.shows {n : Int} (h : SmI n) : Shows (.int n) 20 16000000 := (Shows.int (by have := h.1; omega) (by have := h.2; omega)).up (by decide) (by decide)
theorem numS_len {n : Int} (h : SmI n) : (numS n).length ≤ 52 := by
  have pos : ∀ m : Int, 0 ≤ m → m ≤ 10 ^ 50 → (numS m).length ≤ 51 := fun m h0 h1 => PyProof.Rows.toString_length_le h0 (by decide) (by walk_at "om")
  rcases Int.lt_or_le n 0 with hn | hn
  · have e := congrArg List.length (numS_neg hn)
    rw [List.length_cons, Array.length_toList, Array.length_toList] at e
    have := pos (0 - n) (by walk_at "om") (by have := h.1; omega)
    show (numS n).cps.size ≤ 52
    have : (numS (0 - n)).cps.size ≤ 51 := this
    omega
  · have := pos n hn h.2
    omega
theorem numS_free {n : Int} {c : Nat} (h : c ≠ 45 ∧ (c < 48 ∨ 57 < c)) : c ∉ (numS n).cps.toList := PyProof.Rows.int_text_free' c h n
theorem lens_le {xs : List Str} {m : Nat} (h : ∀ x ∈ xs, x.length ≤ m) : (xs.map (·.length)).sum ≤ xs.length * m := by
  induction xs with
  | nil => simp
  | cons x xs ih =>
    have h1 := h x (.head _)
    have h2 := ih fun y hy => h y (.tail _ hy)
    rw [List.map_cons, List.sum_cons, List.length_cons, Nat.add_mul]
    omega
theorem words_len {r : Rw} (o : OkR r) : ∀ x ∈ r.1 :: r.2.map numS, x.length ≤ 52 := fun x hx => by
  rcases List.mem_cons.mp hx with rfl | hx
  · have := o.w; omega
  · obtain ⟨n, hn, rfl⟩ := List.mem_map.mp hx
    exact numS_len (o.n n hn)
theorem joined_len (sep : Str) (ts : List Str) : (Txt.join sep ts).length ≤ (ts.map (·.length)).sum + ts.length * sep.length := by
  rw [show Txt.join sep ts = sep.join ts from StrLaws.glued_eq_join _ _]
  exact StrLaws.join_length_le _ _
theorem rtext_len {r : Rw} (o : OkR r) : (rtext r).length ≤ 20000 := by
  have h1 := joined_len blank (r.1 :: r.2.map numS)
  have h2 := lens_le (words_len o)
  have h3 := o.l
  rw [List.length_cons, List.length_map] at h1 h2
  unfold rtext
  have : blank.length = 1 := rfl
  rw [this] at h1
  omega
@[irreducible] noncomputable def sp_row_text : Sp := fun vs H Q _ => ∃ (p : Addr) (r : Rw), vs = [.ref p] ∧ RwT H p r ∧ OkR r ∧ ∀ H', Same H H' → Q (.str (rtext r)) H'
theorem row_text_rd {H : Hp} {p : Addr} {r : Rw} {Q : VK} {E : XK} (h : RwT H p r) (o : OkR r) (q : ∀ H', Same H H' → Q (.str (rtext r)) H') : sp_row_text [.ref p] H Q E := by unfold sp_row_text; exact ⟨p, r, rfl, h, o, q⟩
theorem ok_row_text {f : Addr} {fd : FuncData} (F : Fun K "row_text" "row_text" s_row_text f fd) (N : Nm mg) : FnOk P w K mg base CX0 1 f fd ["row"] sp_row_text := by
  refine F.ok sc_row_text (fun vs H Q E h => by unfold sp_row_text at h; obtain ⟨_, _, rfl, _⟩ := h; rfl) (fun cdv A outer s H vs Q E hr h => ?_)
  unfold sp_row_text at h
  obtain ⟨p, r, rfl, h, o, q⟩ := h
  have hu := hu40 hr
  have o2 := o.l
  refine ⟨_, (pss_one (ps_ret (peM_join (K := K) rfl pe_str (pa_cons (peComp (N := ["word"]) (ks := [none]) (piSeqK (K := K) rfl (pq 0)) (fun cl C s3 H3 fp => (pg_name (i := 0) nb_0 rfl (by first | exact Or.inl rfl | exact Or.inr rfl))) (fun cl C s3 H3 fp => pts_nil) (fun cl C s3 H3 fp => (pT (cStrA hr) N.str_ bt_str (pa_cons (pq 0) pa_nil))) (.skip .nil)) pa_nil)))), ?_⟩
  refine iterT_rd h ?_
  refine comp_I (Wk.tup h) (by rw [sizeLine_eq, List.length_cons, List.length_map]; omega) (fun j => .str ((r.1 :: r.2.map numS).getD j ⟨#[]⟩)) (fun _ => true) (fun j σ => ∃ t : Option V, σ = [t]) ⟨none, rfl⟩ ?_ ?_
  · rintro j x σ J R' S' hj sJ hx ⟨_, rfl⟩ kk _
    refine br_T ?_
    walk_at "wh"
    cases j with
    | zero =>
      cases hx
      refine strA_rd (.str r.1) ((Shows.str (m := 16000000) (by have := o.t; omega)).up (by decide) (by decide)) ?_
      walk_at "wh"
      exact kk rfl _ _ (Same.refl _) ⟨_, rfl⟩
    | succ j =>
      rw [List.getElem?_cons_succ, List.getElem?_map] at hx
      obtain ⟨n, en, rfl⟩ := Option.map_eq_some_iff.mp hx
      rw [show (r.1 :: r.2.map numS).getD (j + 1) ⟨#[]⟩ = numS n by rw [List.getD_eq_getElem?_getD, List.getElem?_cons_succ, List.getElem?_map, en]; rfl] at kk
      refine strA_rd (.int n) (o.n n (List.mem_of_getElem? en)).shows ?_
      walk_at "wh"
      exact kk rfl _ _ (Same.refl _) ⟨_, rfl⟩
  intro acc I f1 s1 h1
  have e : (((List.range (V.str r.1 :: r.2.map V.int).length).filter fun _ => true).map fun j => V.str ((r.1 :: r.2.map numS).getD j ⟨#[]⟩)) = (r.1 :: r.2.map numS).map V.str := by
    rw [filter_T]
    apply List.ext_getElem?
    intro i
    rw [List.getElem?_map, List.getElem?_map]
    by_cases hi : i < (r.1 :: r.2.map numS).length
    · rw [List.getElem?_range (by simpa using hi), List.getElem?_eq_getElem hi]
      show some (V.str ((r.1 :: r.2.map numS).getD i ⟨#[]⟩)) = _
      rw [List.getD_eq_getElem?_getD, List.getElem?_eq_getElem hi]
      rfl
    · rw [List.getElem?_eq_none (by simpa using hi), List.getElem?_eq_none (by walk_at "om")]
      rfl
  rw [e] at h1
  refine join_rd h1 ?_ ?_
  · have h2 := lens_le (words_len o)
    rw [List.length_cons, List.length_map] at h2 ⊢
    show _ + (r.2.length + 1) * 1 ≤ _
    omega
  walk_at "wh"
  exact q I s1
@[irreducible] noncomputable def sp_text_of : Sp := fun vs H Q _ => ∃ (l : Addr) (ps : List Addr) (rs : List Rw), vs = [.ref l] ∧ RwsAt H l ps rs ∧ rs.length ≤ 400 ∧ (∀ r ∈ rs, OkR r) ∧ ∀ H', Same H H' → Q (.str (textR rs)) H'
theorem text_of_rd {H : Hp} {l : Addr} {ps : List Addr} {rs : List Rw} {Q : VK} {E : XK} (R : RwsAt H l ps rs) (hl : rs.length ≤ 400) (o : ∀ r ∈ rs, OkR r) (q : ∀ H', Same H H' → Q (.str (textR rs)) H') : sp_text_of [.ref l] H Q E := by unfold sp_text_of; exact ⟨l, ps, rs, rfl, R, hl, o, q⟩
theorem ok_text_of {f : Addr} {fd : FuncData} (F : Fun K "text_of" "text_of" s_text_of f fd) (N : Nm mg) (D_row_text : Def P w K mg base CX0 1 "row_text" ["row"] sp_row_text) : FnOk P w K mg base CX0 2 f fd ["rows"] sp_text_of := by
  refine F.ok sc_text_of (fun vs H Q E h => by unfold sp_text_of at h; obtain ⟨_, _, _, rfl, _⟩ := h; rfl) (fun cdv A outer s H vs Q E hr h => ?_)
  unfold sp_text_of at h
  obtain ⟨l, ps, rs, rfl, R, hl, o, q⟩ := h
  have hu := hu40 hr
  have rl := R.len
  refine ⟨_, (pss_one (ps_ret (peM_join (K := K) rfl pe_str (pa_cons (peComp (N := ["row"]) (ks := [none]) (piSeqK (K := K) rfl (pq 0)) (fun cl C s3 H3 fp => (pg_name (i := 0) nb_1 rfl (by first | exact Or.inl rfl | exact Or.inr rfl))) (fun cl C s3 H3 fp => pts_nil) (fun cl C s3 H3 fp => (pe_op oAdd (pD D_row_text hr pass0 (pa_cons (pq 0) pa_nil)) pe_str)) (.skip .nil)) pa_nil)))), ?_⟩
  refine iterL_rd R.out ?_
  refine comp_I (n := (ps.map V.ref).length) (Wk.list (SqL.of R.out)) (by rw [sizeLine_eq, List.length_map]; omega) (fun j => .str ((rs.map fun r => rtext r ++ lineE).getD j ⟨#[]⟩)) (fun _ => true) (fun j σ => ∃ t : Option V, σ = [t]) ⟨none, rfl⟩ ?_ ?_
  · rintro j x σ J R' S' hj sJ hx ⟨_, rfl⟩ kk _
    rw [List.getElem?_map] at hx
    obtain ⟨p, ep, rfl⟩ := Option.map_eq_some_iff.mp hx
    obtain ⟨r, er⟩ : ∃ r, rs[j]? = some r := ⟨_, List.getElem?_eq_getElem (by have := (List.getElem?_eq_some_iff.mp ep).1; omega)⟩
    have okr := o r (List.mem_of_getElem? er)
    have ln := rtext_len okr
    rw [show (rs.map fun r => rtext r ++ lineE).getD j ⟨#[]⟩ = rtext r ++ lineE by rw [List.getD_eq_getElem?_getD, List.getElem?_map, er]; rfl] at kk
    refine br_T ?_
    refine row_text_rd (sJ _ _ (R.row j p r ep er)) okr (fun J1 s1 => ?_)
    walk_at "wh"
    refine ⟨by show (rtext r).length + 1 ≤ sizeLine; rw [sizeLine_eq]; omega, ?_⟩
    walk_at "wh"
    exact kk rfl _ _ s1 ⟨_, rfl⟩
  intro acc I f1 s1 h1
  have e : (((List.range (ps.map V.ref).length).filter fun _ => true).map fun j => V.str ((rs.map fun r => rtext r ++ lineE).getD j ⟨#[]⟩)) = (rs.map fun r => rtext r ++ lineE).map V.str := by
    rw [filter_T, List.length_map, rl]
    apply List.ext_getElem?
    intro i
    rw [List.getElem?_map, List.getElem?_map]
    by_cases hi : i < rs.length
    · rw [List.getElem?_range hi, List.getElem?_map, List.getElem?_eq_getElem hi]
      show some (V.str ((rs.map fun r => rtext r ++ lineE).getD i ⟨#[]⟩)) = _
      rw [List.getD_eq_getElem?_getD, List.getElem?_map, List.getElem?_eq_getElem hi]
      rfl
    · rw [List.getElem?_eq_none (by simpa using hi), List.getElem?_eq_none (by simpa using hi)]
      rfl
  rw [e] at h1
  refine join_rd h1 ?_ ?_
  · have h2 := lens_le (xs := rs.map fun r => rtext r ++ lineE) (m := 20001) fun x hx => by
      obtain ⟨r, hr, rfl⟩ := List.mem_map.mp hx
      have := rtext_len (o r hr)
      have e := congrArg List.length (PySem.W.KT.app_list (rtext r) lineE)
      rw [List.length_append, Array.length_toList, Array.length_toList, Array.length_toList] at e
      show (rtext r ++ lineE).cps.size ≤ 20001
      have e1 : lineE.cps.size = 1 := rfl
      have e2 : (rtext r).cps.size ≤ 20000 := this
      omega
    rw [List.length_map] at h2 ⊢
    show _ + rs.length * 0 ≤ _
    omega
  walk_at "wh"
  exact q I s1
-- @@split
/-! ### the rows of a paper -/
noncomputable abbrev F3 := Int × Int × Int
structure RwX (H : Hp) (p : Addr) (bs : List Addr) (xs : List F3) : Prop where
  out : H p = some (.lst (bs.map V.ref))
  len : bs.length = xs.length
  row : ∀ (i : Nat) b x, bs[i]? = some b → xs[i]? = some x → H b = some (.tup [.int x.1, .int x.2.1, .int x.2.2])
structure StX (H : Hp) (p : Addr) (rs : List (Addr × List Addr)) (xss : List (List F3)) : Prop where
  out : H p = some (.lst (rs.map fun r => V.ref r.1))
  len : rs.length = xss.length
  row : ∀ (i : Nat) r xs, rs[i]? = some r → xss[i]? = some xs → RwX H r.1 r.2 xs
structure TbX (H : Hp) (p : Addr) (qs : List Addr) (nss : List (List Int)) : Prop where
  out : H p = some (.lst (qs.map V.ref))
  len : qs.length = nss.length
  row : ∀ (i : Nat) q ns, qs[i]? = some q → nss[i]? = some ns → H q = some (.lst (ns.map V.int))
structure PpX (H : Hp) (p st tb : Addr) (rs : List (Addr × List Addr)) (xss : List (List F3)) (qs : List Addr) (nss : List (List Int)) : Prop where
  out : H p = some (.tup [.ref st, .ref tb])
  stm : StX H st rs xss
  tab : TbX H tb qs nss
theorem RwX.same {H H' : Hp} {p : Addr} {bs : List Addr} {xs : List F3} (R : RwX H p bs xs) (s : Same H H') : RwX H' p bs xs := ⟨s _ _ R.out, R.len, fun i b x e1 e2 => s _ _ (R.row i b x e1 e2)⟩
theorem StX.same {H H' : Hp} {p : Addr} {rs : List (Addr × List Addr)} {xss : List (List F3)} (R : StX H p rs xss) (s : Same H H') : StX H' p rs xss := ⟨s _ _ R.out, R.len, fun i r xs e1 e2 => (R.row i r xs e1 e2).same s⟩
theorem TbX.same {H H' : Hp} {p : Addr} {qs : List Addr} {nss : List (List Int)} (R : TbX H p qs nss) (s : Same H H') : TbX H' p qs nss := ⟨s _ _ R.out, R.len, fun i r xs e1 e2 => s _ _ (R.row i r xs e1 e2)⟩
theorem PpX.same {H H' : Hp} {p st tb : Addr} {rs : List (Addr × List Addr)} {xss : List (List F3)} {qs : List Addr} {nss : List (List Int)} (R : PpX H p st tb rs xss qs nss) (s : Same H H') : PpX H' p st tb rs xss qs nss := ⟨s _ _ R.out, R.stm.same s, R.tab.same s⟩
noncomputable def flR (k : Nat) (z : F3) : Rw := ("flow", [(k : Int), z.1, z.2.1, z.2.2])
noncomputable def nuR (k c : Nat) (n : Int) : Rw := ("number", [(k : Int), (c : Int), n])
noncomputable def flowsR : Nat → List (List F3) → List Rw
  | _, [] => []
  | k, xs :: r => xs.map (flR k) ++ flowsR (k + 1) r
noncomputable def numR (k : Nat) : Nat → List Int → List Rw
  | _, [] => []
  | c, n :: r => nuR k c n :: numR k (c + 1) r
noncomputable def numsR : Nat → List (List Int) → List Rw
  | _, [] => []
  | k, ns :: r => numR k 0 ns ++ numsR (k + 1) r
theorem flowsR_snoc (xs : List F3) : ∀ (k : Nat) (ys : List (List F3)), flowsR k (ys ++ [xs]) = flowsR k ys ++ xs.map (flR (k + ys.length))
  | k, [] => by simp [flowsR]
  | k, y :: ys => by
    show y.map (flR k) ++ flowsR (k + 1) (ys ++ [xs]) = y.map (flR k) ++ flowsR (k + 1) ys ++ _
    rw [flowsR_snoc xs (k + 1) ys, List.append_assoc, List.length_cons, show k + 1 + ys.length = k + (ys.length + 1) by walk_at "om"]
theorem numsR_snoc (xs : List Int) : ∀ (k : Nat) (ys : List (List Int)), numsR k (ys ++ [xs]) = numsR k ys ++ numR (k + ys.length) 0 xs
  | k, [] => by simp [numsR]
  | k, y :: ys => by
    show numR k 0 y ++ numsR (k + 1) (ys ++ [xs]) = numR k 0 y ++ numsR (k + 1) ys ++ _
    rw [numsR_snoc xs (k + 1) ys, List.append_assoc, List.length_cons, show k + 1 + ys.length = k + (ys.length + 1) by walk_at "om"]
theorem numR_len (k : Nat) : ∀ (c : Nat) (ns : List Int), (numR k c ns).length = ns.length
  | _, [] => rfl
  | c, n :: r => by
    show (numR k (c + 1) r).length + 1 = _
    rw [numR_len k (c + 1) r]; rfl
theorem numR_get (k : Nat) : ∀ (c : Nat) (ns : List Int) (i : Nat) (n : Int), ns[i]? = some n → (numR k c ns)[i]? = some (nuR k (c + i) n)
  | _, [], i, n, h => by simp at h
  | c, m :: r, 0, n, h => by
    cases h
    rfl
  | c, m :: r, i + 1, n, h => by
    show (numR k (c + 1) r)[i]? = _
    rw [numR_get k (c + 1) r i n h, show c + 1 + i = c + (i + 1) by walk_at "om"]
/-- bounds of a paper that is written -/
structure PxB (xss : List (List F3)) (nss : List (List Int)) : Prop where
  fl : 1 ≤ xss.length ∧ xss.length ≤ 8
  rl : ∀ xs ∈ xss, 1 ≤ xs.length ∧ xs.length ≤ 20
  rn : ∀ xs ∈ xss, ∀ z ∈ xs, SmI z.1 ∧ SmI z.2.1 ∧ SmI z.2.2
  tl : 1 ≤ nss.length ∧ nss.length ≤ 8
  nl : ∀ ns ∈ nss, 1 ≤ ns.length ∧ ns.length ≤ 20
  nn : ∀ ns ∈ nss, ∀ n ∈ ns, SmI n
theorem SmI.nat {k : Nat} (h : k ≤ 1000) : SmI (k : Int) := ⟨by walk_at "om", by walk_at "om"⟩
theorem flR_ok {k : Nat} {z : F3} (hk : k ≤ 1000) (h : SmI z.1 ∧ SmI z.2.1 ∧ SmI z.2.2) : OkR (flR k z) := ⟨by show ("flow" : Str).length ≤ 10; decide +kernel, by show 4 ≤ 200; decide, fun n hn => by
  simp only [flR, List.mem_cons, List.not_mem_nil, or_false] at hn
  rcases hn with rfl | rfl | rfl | rfl
  · exact SmI.nat hk
  · exact h.1
  · exact h.2.1
  · exact h.2.2, by show (reprText ("flow" : Str)).length ≤ 100; decide +kernel⟩
theorem nuR_ok {k c : Nat} {n : Int} (hk : k ≤ 1000) (hc : c ≤ 1000) (h : SmI n) : OkR (nuR k c n) := ⟨by show ("number" : Str).length ≤ 10; decide +kernel, by show 3 ≤ 200; decide, fun m hm => by
  simp only [nuR, List.mem_cons, List.not_mem_nil, or_false] at hm
  rcases hm with rfl | rfl | rfl
  · exact SmI.nat hk
  · exact SmI.nat hc
  · exact h, by show (reprText ("number" : Str)).length ≤ 100; decide +kernel⟩
theorem flowsR_all {P : Rw → Prop} {m : Nat} : ∀ {xss : List (List F3)} {k : Nat}, k + xss.length ≤ m → (∀ xs ∈ xss, ∀ z ∈ xs, ∀ j, j ≤ m → P (flR j z)) → ∀ r ∈ flowsR k xss, P r
  | [], k, _, _, r, hr => by cases hr
  | xs :: xss, k, hk, h, r, hr => by
    rw [List.length_cons] at hk
    rcases List.mem_append.mp (show r ∈ xs.map (flR k) ++ flowsR (k + 1) xss from hr) with hr | hr
    · obtain ⟨z, hz, rfl⟩ := List.mem_map.mp hr
      exact h xs (.head _) z hz k (by walk_at "om")
    · exact flowsR_all (by walk_at "om") (fun ys hy => h ys (.tail _ hy)) r hr
theorem numR_all {P : Rw → Prop} {k m : Nat} : ∀ {ns : List Int} {c : Nat}, c + ns.length ≤ m → (∀ n ∈ ns, ∀ j, j ≤ m → P (nuR k j n)) → ∀ r ∈ numR k c ns, P r
  | [], c, _, _, r, hr => by cases hr
  | n :: ns, c, hc, h, r, hr => by
    rw [List.length_cons] at hc
    rcases List.mem_cons.mp (show r ∈ nuR k c n :: numR k (c + 1) ns from hr) with rfl | hr
    · exact h n (.head _) c (by walk_at "om")
    · exact numR_all (by walk_at "om") (fun x hx => h x (.tail _ hx)) r hr
theorem numsR_all {P : Rw → Prop} {m l : Nat} : ∀ {nss : List (List Int)} {k : Nat}, k + nss.length ≤ m → (∀ ns ∈ nss, ns.length ≤ l) → (∀ ns ∈ nss, ∀ n ∈ ns, ∀ j, j ≤ m → ∀ c, c ≤ l → P (nuR j c n)) → ∀ r ∈ numsR k nss, P r
  | [], k, _, _, _, r, hr => by cases hr
  | ns :: nss, k, hk, hl, h, r, hr => by
    rw [List.length_cons] at hk
    rcases List.mem_append.mp (show r ∈ numR k 0 ns ++ numsR (k + 1) nss from hr) with hr | hr
    · exact numR_all (m := l) (by have := hl ns (.head _); omega) (fun n hn j hj => h ns (.head _) n hn k (by walk_at "om") j hj) r hr
    · exact numsR_all (by walk_at "om") (fun ys hy => hl ys (.tail _ hy)) (fun ys hy => h ys (.tail _ hy)) r hr
theorem flowsR_len {l : Nat} : ∀ {xss : List (List F3)} (k : Nat), (∀ xs ∈ xss, xs.length ≤ l) → (flowsR k xss).length ≤ xss.length * l
  | [], _, _ => Nat.zero_le _
  | xs :: xss, k, h => by
    have h1 := h xs (.head _)
    have h2 := flowsR_len (k + 1) (fun ys hy => h ys (.tail _ hy)) (xss := xss)
    show (xs.map (flR k) ++ flowsR (k + 1) xss).length ≤ _
    rw [List.length_append, List.length_map, List.length_cons, Nat.add_mul]
    omega
theorem numsR_len {l : Nat} : ∀ {nss : List (List Int)} (k : Nat), (∀ ns ∈ nss, ns.length ≤ l) → (numsR k nss).length ≤ nss.length * l
  | [], _, _ => Nat.zero_le _
  | ns :: nss, k, h => by
    have h1 := h ns (.head _)
    have h2 := numsR_len (k + 1) (fun ys hy => h ys (.tail _ hy)) (nss := nss)
    show (numR k 0 ns ++ numsR (k + 1) nss).length ≤ _
    rw [List.length_append, numR_len, List.length_cons, Nat.add_mul]
    omega
theorem PxB.okF {xss : List (List F3)} {nss : List (List Int)} (B : PxB xss nss) : ∀ r ∈ flowsR 0 xss, OkR r := flowsR_all (m := 1000) (by have := B.fl; omega) fun xs hx z hz j hj => flR_ok hj (B.rn xs hx z hz)
theorem PxB.okN {xss : List (List F3)} {nss : List (List Int)} (B : PxB xss nss) : ∀ r ∈ numsR 0 nss, OkR r := numsR_all (m := 1000) (l := 20) (by have := B.tl; omega) (fun ns hn => (B.nl ns hn).2) fun ns hn n h j hj c hc => nuR_ok hj (by walk_at "om") (B.nn ns hn n h)
theorem RwsAt.ext {H : Hp} {l : Addr} {ps qs : List Addr} {rs us : List Rw} (h : H l = some (.lst (ps.map V.ref ++ qs.map V.ref))) (l1 : ps.length = rs.length) (l2 : qs.length = us.length) (r1 : ∀ (i : Nat) p r, ps[i]? = some p → rs[i]? = some r → RwT H p r) (r2 : ∀ (i : Nat) p r, qs[i]? = some p → us[i]? = some r → RwT H p r) : RwsAt H l (ps ++ qs) (rs ++ us) := by
  refine ⟨by rw [h, List.map_append], by rw [List.length_append, List.length_append, l1, l2], fun i p r e1 e2 => ?_⟩
  by_cases hi : i < ps.length
  · rw [List.getElem?_append_left hi] at e1
    rw [List.getElem?_append_left (by walk_at "om")] at e2
    exact r1 i p r e1 e2
  · rw [List.getElem?_append_right (by walk_at "om")] at e1
    rw [List.getElem?_append_right (by walk_at "om"), ← l1] at e2
    exact r2 _ p r e1 e2
@[irreducible] noncomputable def sp_flow_rows : Sp := fun vs H Q _ => ∃ (st : Addr) (rs : List (Addr × List Addr)) (xss : List (List F3)), vs = [.ref st] ∧ StX H st rs xss ∧ xss.length ≤ 100 ∧ (∀ xs ∈ xss, xs.length ≤ 100) ∧ ∀ l ps H', H l = none → Same H H' → RwsAt H' l ps (flowsR 0 xss) → Q (.ref l) H'
theorem flow_rows_rd {H : Hp} {st : Addr} {rs : List (Addr × List Addr)} {xss : List (List F3)} {Q : VK} {E : XK} (S : StX H st rs xss) (h1 : xss.length ≤ 100) (h2 : ∀ xs ∈ xss, xs.length ≤ 100) (q : ∀ l ps H', H l = none → Same H H' → RwsAt H' l ps (flowsR 0 xss) → Q (.ref l) H') : sp_flow_rows [.ref st] H Q E := by
  unfold sp_flow_rows; exact ⟨st, rs, xss, rfl, S, h1, h2, q⟩
set_option maxHeartbeats 0 in
theorem ok_flow_rows {f : Addr} {fd : FuncData} (F : Fun K "flow_rows" "flow_rows" s_flow_rows f fd) (N : Nm mg) : FnOk P w K mg base CX0 1 f fd ["stream"] sp_flow_rows := by
  refine F.ok sc_flow_rows (fun vs H Q E h => by unfold sp_flow_rows at h; obtain ⟨_, _, _, rfl, _⟩ := h; rfl) (fun cdv A outer s H vs Q E hr h => ?_)
  unfold sp_flow_rows at h
  obtain ⟨st, rs, xss, rfl, S, h1, h2, q⟩ := h
  have hu := hu40 hr
  have sl := S.len
  refine ⟨_, (pss_cons (psS (i := 1) sc_flow_rows.nd (peLst pa_nil))
      (pss_cons (psFor PassesOwn.never rfl (piEnumK (K := K) rfl N.enumerate_ (pa_cons (pq 0) pa_nil)) (pgAnyK (K := K) (n := 2) rfl rfl (pgsCons (pg_name (i := 2) sc_flow_rows.nd rfl (by first | exact Or.inl rfl | exact Or.inr rfl)) (pgsCons (pg_name (i := 3) sc_flow_rows.nd rfl (by first | exact Or.inl rfl | exact Or.inr rfl)) pgsNil))) (pss_one (ps_expr (peM_extend (K := K) rfl (pq 1) (pa_cons (peComp (N := ["left", "sent", "flow", "field"]) (ks := [none, none, none, some 2]) (piSeqK (K := K) rfl (pq 3)) (fun cl C s3 H3 fp => (pgAnyK (K := K) (n := 3) rfl rfl (pgsCons (pg_name (i := 0) nb_2 rfl (by first | exact Or.inl rfl | exact Or.inr rfl)) (pgsCons (pg_name (i := 1) nb_2 rfl (by first | exact Or.inl rfl | exact Or.inr rfl)) (pgsCons (pg_name (i := 2) nb_2 rfl (by first | exact Or.inl rfl | exact Or.inr rfl)) pgsNil))))) (fun cl C s3 H3 fp => pts_nil) (fun cl C s3 H3 fp => (peTup (pa_cons pe_str (pa_cons (pq 3) (pa_cons (pq 0) (pa_cons (pq 1) (pa_cons (pq 2) pa_nil))))))) (.skip (.skip (.skip (.take rfl rfl (by first | exact Or.inl rfl | exact Or.inr rfl) .nil))))) pa_nil)))))
      (pss_one (ps_ret (pq 1))))), ?_⟩
  refine newL_rd (fun l H1 g1 s1 k1 => ?_)
  have nst : st ≠ l := ne_of_none S.out g1
  refine enum_rd (s1 _ _ S.out) ?_
  refine loop_enum (xs := rs.map fun r => V.ref r.1) (fun i σ I => ∃ (y2 y3 : Option V) (ps : List Addr), σ = [some (.ref st), some (.ref l), y2, y3] ∧ Same H I ∧ RwsAt I l ps (flowsR 0 (xss.take i))) ?_ ?_ ?_ ?_
  · exact ⟨_, _, [], rfl, s1, ⟨k1, rfl, fun i p r e => by simp at e⟩⟩
  · rintro i σ I _ ⟨_, _, _, _, sI, _⟩
    exact SqL.of (sI _ _ S.out)
  · rintro i y σ I e I' hy ⟨y2, y3, ps, rfl, sI, R⟩ fe sE he
    rw [List.getElem?_map] at hy
    obtain ⟨r, er, rfl⟩ := Option.map_eq_some_iff.mp hy
    have hi := (List.getElem?_eq_some_iff.mp er).1
    obtain ⟨xs, ex⟩ : ∃ xs, xss[i]? = some xs := ⟨_, List.getElem?_eq_getElem (by walk_at "om")⟩
    have sI' := sI.trans sE
    have X := (S.row i r xs er ex).same sI'
    have xl := X.len
    have xh := h2 xs (List.mem_of_getElem? ex)
    have R' := R.same sE
    have pl := R.len
    have ln := flowsR_len (l := 100) 0 (xss := xss.take i) fun ys hy => h2 ys (List.mem_of_mem_take hy)
    rw [List.length_take] at ln
    have ln2 : (flowsR 0 (xss.take i)).length ≤ 10000 := Nat.le_trans ln (by
      have : min i xss.length ≤ 100 := by walk_at "om"
      exact Nat.le_trans (Nat.mul_le_mul_right 100 this) (by decide))
    refine unpT_rd he ?_
    refine lst_is R'.out ?_
    refine iterL_rd X.out ?_
    refine comp_F (n := (r.2.map V.ref).length) (Wk.list (SqL.of X.out)) (by rw [List.length_map, sizeLine_eq]; omega) (fun j => .tup (.str "flow" :: (flR i (xs.getD j (0, 0, 0))).2.map V.int)) (fun j σ => ∃ t1 t2 t3 : Option V, σ = [t1, t2, t3, some (.int i)]) ⟨none, none, none, rfl⟩ ?_ ?_
    · rintro j x σ J R1 S1 hj sJ hx ⟨_, _, _, rfl⟩ kk
      rw [List.getElem?_map] at hx
      obtain ⟨b, eb, rfl⟩ := Option.map_eq_some_iff.mp hx
      obtain ⟨z, ez⟩ : ∃ z, xs[j]? = some z := ⟨_, List.getElem?_eq_getElem (by have := (List.getElem?_eq_some_iff.mp eb).1; omega)⟩
      rw [show xs.getD j (0, 0, 0) = z by rw [List.getD_eq_getElem?_getD, ez]; rfl] at kk
      refine unpT_rd (sJ _ _ (X.row j b z eb ez)) ?_
      refine br_T ?_
      refine newT_rd (fun p2 I2 g2 s2 h2 => ?_)
      walk_at "wh"
      exact kk _ p2 I2 g2 s2 h2 ⟨_, _, _, rfl⟩
    intro t ts J FL
    rw [List.length_map, xl] at FL
    have tl := FL.len
    refine ext_rd (FL.same _ _ R'.out) FL.out (by rw [List.length_map, List.length_map, sizeLine_eq]; omega) (fun J2 c2 k2 => ?_)
    have ntl : ∀ p ∈ ts, p ≠ l := fun p hp => Ne.symm (ne_of_none R'.out (FL.free hp))
    have hR : ∀ (j : Nat) p r', ps[j]? = some p → (flowsR 0 (xss.take i))[j]? = some r' → p ≠ l := fun j p r' e1 e2 z => by
      have := R.row j p r' e1 e2
      unfold RwT at this
      rw [z, R.out] at this
      cases this
    walk_at "wh"
    refine ⟨_, _, ps ++ ts, rfl, fun b o z => c2 _ _ (ne_of_none z g1) ((sI'.trans FL.same) _ _ z), ?_⟩
    rw [List.take_succ, ex]
    show RwsAt J2 l (ps ++ ts) (flowsR 0 (xss.take i ++ [xs]))
    rw [flowsR_snoc, List.length_take, Nat.min_eq_left (by walk_at "om"), Nat.zero_add]
    refine RwsAt.ext k2 pl (by rw [List.length_map, tl]) (fun j p r' e1 e2 => c2 _ _ (hR j p r' e1 e2) (FL.same _ _ (R'.row j p r' e1 e2))) (fun j p r' e1 e2 => ?_)
    have hp := List.mem_of_getElem? e1
    rw [List.getElem?_map] at e2
    obtain ⟨z, ez, rfl⟩ := Option.map_eq_some_iff.mp e2
    have := (FL.row j p e1).2
    rw [show xs.getD j (0, 0, 0) = z by rw [List.getD_eq_getElem?_getD, ez]; rfl] at this
    exact c2 _ _ (ntl p hp) this
  · rintro σ I ⟨y2, y3, ps, rfl, sI, R⟩
    rw [List.length_map, List.take_of_length_le (by walk_at "om")] at R
    walk_at "wh"
    exact q l ps I g1 sI R
@[irreducible] noncomputable def sp_number_rows : Sp := fun vs H Q _ => ∃ (st : Addr) (qs : List Addr) (nss : List (List Int)), vs = [.ref st] ∧ TbX H st qs nss ∧ nss.length ≤ 100 ∧ (∀ xs ∈ nss, xs.length ≤ 100) ∧ ∀ l ps H', H l = none → Same H H' → RwsAt H' l ps (numsR 0 nss) → Q (.ref l) H'
theorem number_rows_rd {H : Hp} {st : Addr} {qs : List Addr} {nss : List (List Int)} {Q : VK} {E : XK} (S : TbX H st qs nss) (h1 : nss.length ≤ 100) (h2 : ∀ xs ∈ nss, xs.length ≤ 100) (q : ∀ l ps H', H l = none → Same H H' → RwsAt H' l ps (numsR 0 nss) → Q (.ref l) H') : sp_number_rows [.ref st] H Q E := by
  unfold sp_number_rows; exact ⟨st, qs, nss, rfl, S, h1, h2, q⟩
set_option maxHeartbeats 0 in
theorem ok_number_rows {f : Addr} {fd : FuncData} (F : Fun K "number_rows" "number_rows" s_number_rows f fd) (N : Nm mg) : FnOk P w K mg base CX0 1 f fd ["table"] sp_number_rows := by
  refine F.ok sc_number_rows (fun vs H Q E h => by unfold sp_number_rows at h; obtain ⟨_, _, _, rfl, _⟩ := h; rfl) (fun cdv A outer s H vs Q E hr h => ?_)
  unfold sp_number_rows at h
  obtain ⟨st, qs, nss, rfl, S, h1, h2, q⟩ := h
  have hu := hu40 hr
  have sl := S.len
  refine ⟨_, (pss_cons (psS (i := 1) sc_number_rows.nd (peLst pa_nil))
      (pss_cons (psFor PassesOwn.never rfl (piEnumK (K := K) rfl N.enumerate_ (pa_cons (pq 0) pa_nil)) (pgAnyK (K := K) (n := 2) rfl rfl (pgsCons (pg_name (i := 2) sc_number_rows.nd rfl (by first | exact Or.inl rfl | exact Or.inr rfl)) (pgsCons (pg_name (i := 3) sc_number_rows.nd rfl (by first | exact Or.inl rfl | exact Or.inr rfl)) pgsNil))) (pss_one (ps_expr (peM_extend (K := K) rfl (pq 1) (pa_cons (peComp (N := ["count", "number", "field"]) (ks := [none, none, some 2]) (piEnumK (K := K) rfl N.enumerate_ (pa_cons (pq 3) pa_nil)) (fun cl C s3 H3 fp => (pgAnyK (K := K) (n := 2) rfl rfl (pgsCons (pg_name (i := 0) nb_3 rfl (by first | exact Or.inl rfl | exact Or.inr rfl)) (pgsCons (pg_name (i := 1) nb_3 rfl (by first | exact Or.inl rfl | exact Or.inr rfl)) pgsNil)))) (fun cl C s3 H3 fp => pts_nil) (fun cl C s3 H3 fp => (peTup (pa_cons pe_str (pa_cons (pq 2) (pa_cons (pq 0) (pa_cons (pq 1) pa_nil)))))) (.skip (.skip (.take rfl rfl (by first | exact Or.inl rfl | exact Or.inr rfl) .nil)))) pa_nil)))))
      (pss_one (ps_ret (pq 1))))), ?_⟩
  refine newL_rd (fun l H1 g1 s1 k1 => ?_)
  refine enum_rd (s1 _ _ S.out) ?_
  refine loop_enum (xs := qs.map V.ref) (fun i σ I => ∃ (y2 y3 : Option V) (ps : List Addr), σ = [some (.ref st), some (.ref l), y2, y3] ∧ Same H I ∧ RwsAt I l ps (numsR 0 (nss.take i))) ?_ ?_ ?_ ?_
  · exact ⟨_, _, [], rfl, s1, ⟨k1, rfl, fun i p r e => by simp at e⟩⟩
  · rintro i σ I _ ⟨_, _, _, _, sI, _⟩
    exact SqL.of (sI _ _ S.out)
  · rintro i y σ I e I' hy ⟨y2, y3, ps, rfl, sI, R⟩ fe sE he
    rw [List.getElem?_map] at hy
    obtain ⟨r, er, rfl⟩ := Option.map_eq_some_iff.mp hy
    have hi := (List.getElem?_eq_some_iff.mp er).1
    obtain ⟨ns, ex⟩ : ∃ xs, nss[i]? = some xs := ⟨_, List.getElem?_eq_getElem (by walk_at "om")⟩
    have sI' := sI.trans sE
    have X := sI' _ _ (S.row i r ns er ex)
    have xh := h2 ns (List.mem_of_getElem? ex)
    have R' := R.same sE
    have pl := R.len
    have ln := numsR_len (l := 100) 0 (nss := nss.take i) fun ys hy => h2 ys (List.mem_of_mem_take hy)
    rw [List.length_take] at ln
    have ln2 : (numsR 0 (nss.take i)).length ≤ 10000 := Nat.le_trans ln (by
      have : min i nss.length ≤ 100 := by walk_at "om"
      exact Nat.le_trans (Nat.mul_le_mul_right 100 this) (by decide))
    refine unpT_rd he ?_
    refine lst_is R'.out ?_
    refine enum_rd X ?_
    refine comp_F (n := (ns.map V.int).length) (Wk.enum (SqL.of X)) (by rw [List.length_map, sizeLine_eq]; omega) (fun j => .tup (.str "number" :: (nuR i j (ns.getD j 0)).2.map V.int)) (fun j σ => ∃ t1 t2 : Option V, σ = [t1, t2, some (.int i)]) ⟨none, none, rfl⟩ ?_ ?_
    · rintro j x σ J R1 S1 hj sJ ⟨p, y, rfl, hp, hx⟩ ⟨_, _, rfl⟩ kk
      rw [List.getElem?_map] at hx
      obtain ⟨n, en, rfl⟩ := Option.map_eq_some_iff.mp hx
      rw [show ns.getD j 0 = n by rw [List.getD_eq_getElem?_getD, en]; rfl] at kk
      refine unpT_rd hp ?_
      refine br_T ?_
      refine newT_rd (fun p2 I2 g2 s2 h2 => ?_)
      walk_at "wh"
      exact kk _ p2 I2 g2 s2 h2 ⟨_, _, rfl⟩
    intro t ts J FL
    rw [List.length_map] at FL
    have tl := FL.len
    refine ext_rd (FL.same _ _ R'.out) FL.out (by rw [List.length_map, List.length_map, sizeLine_eq]; omega) (fun J2 c2 k2 => ?_)
    have ntl : ∀ p ∈ ts, p ≠ l := fun p hp => Ne.symm (ne_of_none R'.out (FL.free hp))
    have hR : ∀ (j : Nat) p r', ps[j]? = some p → (numsR 0 (nss.take i))[j]? = some r' → p ≠ l := fun j p r' e1 e2 z => by
      have := R.row j p r' e1 e2
      unfold RwT at this
      rw [z, R.out] at this
      cases this
    walk_at "wh"
    refine ⟨_, _, ps ++ ts, rfl, fun b o z => c2 _ _ (ne_of_none z g1) ((sI'.trans FL.same) _ _ z), ?_⟩
    rw [List.take_succ, ex]
    show RwsAt J2 l (ps ++ ts) (numsR 0 (nss.take i ++ [ns]))
    rw [numsR_snoc, List.length_take, Nat.min_eq_left (by walk_at "om"), Nat.zero_add]
    refine RwsAt.ext k2 pl (by rw [numR_len, tl]) (fun j p r' e1 e2 => c2 _ _ (hR j p r' e1 e2) (FL.same _ _ (R'.row j p r' e1 e2))) (fun j p r' e1 e2 => ?_)
    have hp := List.mem_of_getElem? e1
    obtain ⟨n, en⟩ : ∃ n, ns[j]? = some n := ⟨_, List.getElem?_eq_getElem (by have := (List.getElem?_eq_some_iff.mp e1).1; omega)⟩
    rw [numR_get i 0 ns j n en, Nat.zero_add] at e2
    cases e2
    have := (FL.row j p e1).2
    rw [show ns.getD j 0 = n by rw [List.getD_eq_getElem?_getD, en]; rfl] at this
    exact c2 _ _ (ntl p hp) this
  · rintro σ I ⟨y2, y3, ps, rfl, sI, R⟩
    rw [List.length_map, List.take_of_length_le (by walk_at "om")] at R
    walk_at "wh"
    exact q l ps I g1 sI R
noncomputable def papT (xss : List (List F3)) (nss : List (List Int)) : Str := textR (flowsR 0 xss ++ numsR 0 nss)
@[irreducible] noncomputable def sp_paper_text : Sp := fun vs H Q _ => ∃ (p st tb : Addr) (rs : List (Addr × List Addr)) (xss : List (List F3)) (qs : List Addr) (nss : List (List Int)), vs = [.ref p] ∧ PpX H p st tb rs xss qs nss ∧ PxB xss nss ∧ ∀ H', Same H H' → Q (.str (papT xss nss)) H'
theorem paper_text_rd {H : Hp} {p st tb : Addr} {rs : List (Addr × List Addr)} {xss : List (List F3)} {qs : List Addr} {nss : List (List Int)} {Q : VK} {E : XK} (A : PpX H p st tb rs xss qs nss) (B : PxB xss nss) (q : ∀ H', Same H H' → Q (.str (papT xss nss)) H') : sp_paper_text [.ref p] H Q E := by
  unfold sp_paper_text; exact ⟨p, st, tb, rs, xss, qs, nss, rfl, A, B, q⟩
theorem ok_paper_text {f : Addr} {fd : FuncData} (F : Fun K "paper_text" "paper_text" s_paper_text f fd) (N : Nm mg) (D_flow_rows : Def P w K mg base CX0 1 "flow_rows" ["stream"] sp_flow_rows) (D_number_rows : Def P w K mg base CX0 1 "number_rows" ["table"] sp_number_rows) (D_text_of : Def P w K mg base CX0 2 "text_of" ["rows"] sp_text_of) : FnOk P w K mg base CX0 3 f fd ["paper"] sp_paper_text := by
  refine F.ok sc_paper_text (fun vs H Q E h => by unfold sp_paper_text at h; obtain ⟨_, _, _, _, _, _, _, rfl, _⟩ := h; rfl) (fun cdv A outer s H vs Q E hr h => ?_)
  unfold sp_paper_text at h
  obtain ⟨p, st, tb, rs, xss, qs, nss, rfl, A', B, q⟩ := h
  have hu := hu40 hr
  have l1 := flowsR_len (l := 20) 0 (xss := xss) fun xs hx => (B.rl xs hx).2
  have l2 := numsR_len (l := 20) 0 (nss := nss) fun xs hx => (B.nl xs hx).2
  have f1 := B.fl
  have t1 := B.tl
  refine ⟨_, (pss_one (ps_ret (pD D_text_of hr pass0 (pa_cons (pe_op oAdd (pD D_flow_rows hr pass0 (pa_cons (peIxK (K := K) rfl (pq 0) pe_int) pa_nil)) (pD D_number_rows hr pass0 (pa_cons (peIxK (K := K) rfl (pq 0) pe_int) pa_nil))) pa_nil)))), ?_⟩
  refine ixT_rd (v := .ref st) A'.out rfl ?_
  refine flow_rows_rd A'.stm (by walk_at "om") (fun xs hx => by have := (B.rl xs hx).2; omega) (fun la pa H1 g1 s1 R1 => ?_)
  refine ixT_rd (v := .ref tb) (s1 _ _ A'.out) rfl ?_
  refine number_rows_rd (A'.tab.same s1) (by walk_at "om") (fun xs hx => by have := (B.nl xs hx).2; omega) (fun lb pb H2 g2 s2 R2 => ?_)
  have R1 := R1.same s2
  have m1 := R1.len
  have m2 := R2.len
  refine cat_rd R1.out R2.out (by rw [List.length_map, List.length_map, sizeLine_eq]; omega) (fun l H3 g3 s3 k3 => ?_)
  refine text_of_rd (RwsAt.ext k3 m1 m2 (fun i p r e1 e2 => s3 _ _ (R1.row i p r e1 e2)) (fun i p r e1 e2 => s3 _ _ (R2.row i p r e1 e2))) (by rw [List.length_append]; omega) (fun r hr => ?_) (fun H4 s4 => ?_)
  · rcases List.mem_append.mp hr with hr | hr
    · exact B.okF r hr
    · exact B.okN r hr
  walk_at "wh"
  exact q H4 (((s1.trans s2).trans s3).trans s4)
-- @@split
/-! ### words that are numbers; what is wanted behind a row's first word -/
noncomputable def WT : List (Str × Int) := [("hosts", 2), ("more", 2), ("lead", 2), ("flow", 4), ("number", 3)]
noncomputable def hasW (w : Str) (m : Int) : Bool := if w = "table" then decide (1 ≤ m) else decide (lookS WT w = .int m)
theorem lookS_or : ∀ (kvs : List (Str × Int)) (x : Str), (∃ n, lookS kvs x = .int n) ∨ lookS kvs x = .non
  | [], _ => .inr rfl
  | (k, n) :: kvs, x => by
    have e : lookS ((k, n) :: kvs) x = if k = x then .int n else lookS kvs x := by
      unfold lookS valV keyV
      rw [List.map_cons, List.find?_cons]
      by_cases h : k = x
      · rw [if_pos h, h]; simp
      · rw [if_neg h]
        simp [h]
    rw [e]
    split
    · exact .inl ⟨n, rfl⟩
    · exact lookS_or kvs x
@[irreducible] noncomputable def sp_has_wanted : Sp := fun vs H Q _ => ∃ (w : Str) (m : Int), vs = [.str w, .int m] ∧ Q (.bl (hasW w m)) H
theorem has_wanted_rd {H : Hp} {w : Str} {m : Int} {Q : VK} {E : XK} (q : Q (.bl (hasW w m)) H) : sp_has_wanted [.str w, .int m] H Q E := by unfold sp_has_wanted; exact ⟨w, m, rfl, q⟩
theorem ok_has_wanted {f : Addr} {fd : FuncData} (F : Fun K "has_wanted" "has_wanted" s_has_wanted f fd) (N : Nm mg) (T_WANTED : TabS w K mg "WANTED" [("hosts", 2), ("more", 2), ("lead", 2), ("flow", 4), ("number", 3)]) : FnOk P w K mg base CX0 1 f fd ["word", "many"] sp_has_wanted := by
  refine F.ok sc_has_wanted (fun vs H Q E h => by unfold sp_has_wanted at h; obtain ⟨_, _, rfl, _⟩ := h; rfl) (fun cdv A outer s H vs Q E hr h => ?_)
  unfold sp_has_wanted at h
  obtain ⟨w, m, rfl, q⟩ := h
  have hu := hu40 hr
  refine ⟨_, (pss_one (ps_ret (peIf (ptC (oEqXK (K := K) rfl (by exact hu)) (pq 0) pe_str) (peC oGe (pq 1) pe_int) (peC (oEqXK (K := K) rfl (by exact hu)) (peGetC T_WANTED (pq 0)) (pq 1))))), ?_⟩
  refine br_dec (fun h1 => ?_) (fun h1 => ?_)
  · unfold hasW at q
    rw [if_pos h1] at q
    walk_at "wh"
    exact q
  · unfold hasW at q
    rw [if_neg h1] at q
    show rEqXM K (lookS WT w) (.int m) H Q
    rcases lookS_or WT w with ⟨n, e⟩ | e
    · rw [e] at q ⊢
      show Q (.bl (decide (n = m))) H
      rw [show decide (n = m) = decide (V.int n = V.int m) by rw [decide_eq_decide]; exact ⟨fun h => by rw [h], fun h => by cases h; rfl⟩]
      exact q
    · rw [e] at q ⊢
      exact eqS_rd (d := .none) (e := .int m) .non (.int m) rfl rfl (by decide) q
noncomputable def figL : List Nat → List Nat
  | 45 :: r => r
  | cs => cs
noncomputable def numB (cs : List Nat) : Bool := (decide (1 ≤ (figL cs).length) && decide ((figL cs).length ≤ 2000)) && (figL cs).all (fun c => decide (48 ≤ c ∧ c ≤ 57)) && (decide ((figL cs).head? ≠ some 48) || decide (cs = [48]))
theorem start_minus (x : Str) : Txt.startswith x "-" = decide (x.cps.toList.head? = some 45) := by
  have h := StrLaws.subAt_one x 45 0
  rw [Bool.eq_iff_iff, decide_eq_true_eq, List.head?_eq_getElem?, ← h]
  unfold Txt.startswith
  rw [Bool.and_eq_true, decide_eq_true_eq]
  exact Iff.rfl
theorem figL_minus {cs : List Nat} (h : cs.head? = some 45) : figL cs = cs.drop 1 := by
  cases cs with
  | nil => cases h
  | cons c r => cases h; rfl
theorem figL_other {cs : List Nat} (h : ¬ cs.head? = some 45) : figL cs = cs := by
  cases cs with
  | nil => rfl
  | cons c r =>
    unfold figL
    split
    · rename_i z; cases z; exact absurd rfl h
    · rfl
theorem slice1 {x : Str} (h : x.cps.toList.head? = some 45) : (Txt.slice x (some 1) none).cps.toList = x.cps.toList.drop 1 := by
  have l : 1 ≤ x.length := by
    show 1 ≤ x.cps.size
    rw [← Array.length_toList]
    cases e : x.cps.toList with
    | nil => rw [e] at h; cases h
    | cons c r => rw [List.length_cons]; omega
  rw [PyProof.Rows.slice_from_eq (b := x.length) (by decide) (by walk_at "om") rfl]
  show List.take ((x.length : Int) - 1).toNat (List.drop (1 : Int).toNat x.cps.toList) = _
  rw [List.take_of_length_le]
  · rfl
  · rw [List.length_drop, Array.length_toList]
    show x.length - 1 ≤ ((x.length : Int) - 1).toNat
    omega
theorem has_fig (c : Nat) : hasS "0123456789" ⟨#[c]⟩ = decide (48 ≤ c ∧ c ≤ 57) := by
  unfold hasS
  rw [StrLaws.found_one, decide_eq_decide, show ("0123456789" : Str).cps.toList = [48, 49, 50, 51, 52, 53, 54, 55, 56, 57] by decide +kernel]
  simp only [List.mem_cons, List.not_mem_nil, or_false]
  omega
@[irreducible] noncomputable def sp_is_number : Sp := fun vs H Q _ => ∃ (x : Str), vs = [.str x] ∧ x.length ≤ 1000000 ∧ ∀ H', Same H H' → Q (.bl (numB x.cps.toList)) H'
theorem is_number_rd {H : Hp} {x : Str} {Q : VK} {E : XK} (h : x.length ≤ 1000000) (q : ∀ H', Same H H' → Q (.bl (numB x.cps.toList)) H') : sp_is_number [.str x] H Q E := by unfold sp_is_number; exact ⟨x, rfl, h, q⟩
set_option maxHeartbeats 0 in
theorem ok_is_number {f : Addr} {fd : FuncData} (F : Fun K "is_number" "is_number" s_is_number f fd) (N : Nm mg) {tk_FIGURES : Tok} (c_FIGURES : mg "FIGURES" = some (.str "0123456789" tk_FIGURES)) {tk_MOST_FIGURES : Tok} (c_MOST_FIGURES : mg "MOST_FIGURES" = some (.int 2000 tk_MOST_FIGURES)) : FnOk P w K mg base CX0 1 f fd ["word"] sp_is_number := by
  refine F.ok sc_is_number (fun vs H Q E h => by unfold sp_is_number at h; obtain ⟨_, rfl, _⟩ := h; rfl) (fun cdv A outer s H vs Q E hr h => ?_)
  unfold sp_is_number at h
  obtain ⟨x, rfl, hx, q⟩ := h
  have hu := hu40 hr
  refine ⟨_, (pss_cons (psCut (psS (i := 1) sc_is_number.nd (peIf (ptV (peM_startswith (K := K) rfl (pq 0) (pa_cons pe_str pa_nil))) (pe_slice (slZK (K := K) rfl) (pq 0) (poSome pe_int) po_none) (pq 0))))
      (pss_cons (psCut (psIf (ptW (pwOr (pt_not (ptChain oLe oLe pe_int (pB (cLenK (K := K) rfl) N.len_ bt_len (pa_cons (pq 1) pa_nil)) (pe_glob (v := .int 2000) rfl c_MOST_FIGURES ⟨_, rfl⟩))) (pw_or1 (pt_not (ptV (pB (cAllK (K := K) rfl rfl) N.all_ bt_all (pa_cons (peComp (N := ["sign"]) (ks := [none]) (piStr (pq 1)) (fun cl C s3 H3 fp => (pg_name (i := 0) nb_4 rfl (by first | exact Or.inl rfl | exact Or.inr rfl))) (fun cl C s3 H3 fp => pts_nil) (fun cl C s3 H3 fp => (peC (oInTTK (K := K) rfl (by exact hu)) (pq 0) (pe_glob (v := .str "0123456789") rfl c_FIGURES ⟨_, rfl⟩))) (.skip .nil)) pa_nil))))))) (pss_one (ps_ret pe_bl)) pss_nil))
      (pss_one (ps_ret (peOr (peC (oNeXK (K := K) rfl (by exact hu)) (peIxK (K := K) rfl (pq 1) pe_int) pe_str) (pe_one (peC (oEqXK (K := K) rfl (by exact hu)) (pq 0) pe_str))))))), ?_⟩
  refine cut_rd (fun σ J => ∃ y : Str, σ = [some (.str x), some (.str y)] ∧ J = H ∧ y.cps.toList = figL x.cps.toList ∧ y.length ≤ 1000000) ?_ ?_
  · walk_at "wh"
    rw [start_minus]
    refine br_dec (fun h => ?_) (fun h => ?_)
    · walk_at "wh"
      refine ⟨by rw [sizeLine_eq]; omega, ?_⟩
      walk_at "wh"
      exact ⟨_, rfl, rfl, by rw [slice1 h, figL_minus h], Nat.le_trans (Txt.slice_le _ _ _) hx⟩
    · walk_at "wh"
      exact ⟨x, rfl, rfl, (figL_other h).symm, hx⟩
  rintro σ J ⟨y, rfl, rfl, ey, ly⟩
  have yl : y.length = (figL x.cps.toList).length := by rw [← ey]; exact Array.length_toList.symm
  have fin : ∀ b, numB x.cps.toList = b → ∀ J', Same J J' → Q (.bl b) J' := fun b e J' sJ => by rw [← e]; exact q J' sJ
  walk_at "wh"
  refine cut_id ?_
  walk_at "wh"
  refine ⟨by rw [sizeLine_eq]; omega, ?_⟩
  have bools : ∀ n, n = y.cps.size → ((List.range n).map fun j => V.bl (decide (48 ≤ y.cps.toList.getD j 0 ∧ y.cps.toList.getD j 0 ≤ 57))) = (y.cps.toList.map fun c => decide (48 ≤ c ∧ c ≤ 57)).map V.bl := fun n hn => by
    subst hn
    apply List.ext_getElem?
    intro i
    rw [List.getElem?_map, List.getElem?_map, List.getElem?_map]
    by_cases hi : i < y.cps.toList.length
    · rw [List.getElem?_range (by rwa [Array.length_toList] at hi), List.getElem?_eq_getElem hi]
      show some (V.bl (decide (48 ≤ y.cps.toList.getD i 0 ∧ y.cps.toList.getD i 0 ≤ 57))) = _
      rw [List.getD_eq_getElem?_getD, List.getElem?_eq_getElem hi]
      rfl
    · rw [List.getElem?_eq_none (by rw [List.length_range]; rw [Array.length_toList] at hi; omega), List.getElem?_eq_none (by walk_at "om")]
      rfl
  refine br_dec (fun h1 => ?_) (fun h1 => ?_)
  rotate_left
  · walk_at "wh"
    refine br_T ?_
    refine br_T ?_
    walk_at "wh"
    refine fin false ?_ J (Same.refl _)
    unfold numB
    rw [decide_eq_false (by walk_at "om")]
    rfl
  refine br_not (br_dec (fun h2 => ?_) (fun h2 => ?_))
  rotate_left
  · walk_at "wh"
    refine br_T ?_
    walk_at "wh"
    refine fin false ?_ J (Same.refl _)
    unfold numB
    rw [decide_eq_false (show ¬ (figL x.cps.toList).length ≤ 2000 by walk_at "om"), Bool.and_false]
    rfl
  refine iterS_rd ?_
  refine comp_I Wk.str (by rw [sizeLine_eq]; show y.length < _; omega) (fun j => .bl (decide (48 ≤ y.cps.toList.getD j 0 ∧ y.cps.toList.getD j 0 ≤ 57))) (fun _ => true) (fun j σ => ∃ t : Option V, σ = [t]) ⟨none, rfl⟩ ?_ ?_
  · rintro j v σ J' R' S' hj sJ ⟨c, ec, rfl⟩ ⟨_, rfl⟩ kk _
    rw [show y.cps.toList.getD j 0 = c by rw [List.getD_eq_getElem?_getD, Array.getElem?_toList, ec]; rfl, ← has_fig] at kk
    refine br_T ?_
    walk_at "wh"
    exact kk rfl _ _ (Same.refl _) ⟨_, rfl⟩
  intro acc J1 g1 s1 k1
  rw [filter_T, bools _ rfl, ey] at k1
  refine all_rd k1 ?_
  rw [List.all_map]
  have ea : (figL x.cps.toList).all (id ∘ fun c => decide (48 ≤ c ∧ c ≤ 57)) = (figL x.cps.toList).all (fun c => decide (48 ≤ c ∧ c ≤ 57)) := rfl
  rw [ea]
  have n1 : decide (1 ≤ (figL x.cps.toList).length) = true := decide_eq_true (by walk_at "om")
  have n2 : decide ((figL x.cps.toList).length ≤ 2000) = true := decide_eq_true (by walk_at "om")
  cases al : (figL x.cps.toList).all (fun c => decide (48 ≤ c ∧ c ≤ 57))
  · walk_at "wh"
    first | refine br_not (br_F ?_) | refine br_T ?_
    walk_at "wh"
    refine fin false ?_ J1 s1
    unfold numB
    rw [al, Bool.and_false]
    rfl
  walk_at "wh"
  first | refine br_not (br_T ?_) | refine br_F ?_
  obtain ⟨c, r, ec⟩ : ∃ c r, figL x.cps.toList = c :: r := by
    cases e : figL x.cps.toList with
    | nil => rw [e] at yl; exact absurd yl (by show ¬ y.length = 0; omega)
    | cons c r => exact ⟨c, r, rfl⟩
  walk_at "wh"
  refine ⟨c, by rw [sizeLine_eq]; omega, by rw [ey, ec]; exact atI_nat (j := 0) rfl, ?_⟩
  have c0 : decide ((⟨#[c]⟩ : Str) = "0") = decide (c = 48) := by
    rw [decide_eq_decide]
    exact ⟨fun h => by have := congrArg (fun s : Str => s.cps.toList) h; rw [show ("0" : Str).cps.toList = [48] by decide +kernel] at this; simpa using this, fun h => by rw [h]; rfl⟩
  have x0 : decide (x = "0") = decide (x.cps.toList = [48]) := by
    rw [decide_eq_decide]
    exact ⟨fun h => by rw [h]; decide +kernel, fun h => PyProof.Rows.ext_toList (h.trans (by decide +kernel))⟩
  have fb : numB x.cps.toList = (!decide (c = 48) || decide (x.cps.toList = [48])) := by
    unfold numB
    rw [n1, n2, al, ec]
    show (true && true && true && (decide ((some c : Option Nat) ≠ some 48) || _)) = _
    rw [Bool.and_self, Bool.and_self, Bool.true_and]
    congr 1
    by_cases hc : c = 48
    · simp [hc]
    · simp [hc]
  walk_at "wh"
  rw [c0]
  by_cases hc : c = 48
  · rw [decide_eq_true hc]
    refine br_not (br_T ?_)
    walk_at "wh"
    rw [x0]
    exact fin _ (by rw [fb, decide_eq_true hc]; rfl) J1 s1
  · rw [decide_eq_false hc]
    refine br_not (br_F ?_)
    walk_at "wh"
    exact fin true (by rw [fb, decide_eq_false hc]; rfl) J1 s1
/-- the text of a number is one -/
theorem numS_is {n : Int} (h : SmI n) : numB (numS n).cps.toList = true := by
  have go : ∀ (m : Nat) (cs : List Nat), figL cs = (Nat.toDigits 10 m).map Char.toNat → ((Nat.toDigits 10 m).map Char.toNat).length ≤ 52 → (m = 0 → cs = [48]) → numB cs = true := fun m cs e l z => by
    have ne := dig_ne m
    have al : ((Nat.toDigits 10 m).map Char.toNat).all (fun c => decide (48 ≤ c ∧ c ≤ 57)) = true := List.all_eq_true.mpr fun c hc => decide_eq_true (dig_nat m c hc)
    unfold numB
    rw [e, al, decide_eq_true (show 1 ≤ ((Nat.toDigits 10 m).map Char.toNat).length from List.length_pos_iff.mpr ne), decide_eq_true (show ((Nat.toDigits 10 m).map Char.toNat).length ≤ 2000 by walk_at "om")]
    show (true && true && true && (_ || _)) = true
    rw [Bool.and_self, Bool.and_self, Bool.true_and]
    by_cases hm : m = 0
    · rw [decide_eq_true (z hm), Bool.or_true]
    · rw [decide_eq_true, Bool.true_or]
      intro hh
      cases ed : (Nat.toDigits 10 m).map Char.toNat with
      | nil => exact ne ed
      | cons c r =>
        rw [ed] at hh
        cases hh
        have := dig_lead ed
        subst this
        have v := PySem.W.KIN.val_back m
        rw [ed] at v
        exact hm (by rw [← v]; rfl)
  have ln : ∀ m : Int, (numS m).cps.toList.length = (numS m).length := fun m => Array.length_toList
  have l := numS_len h
  rcases Int.lt_or_le n 0 with hn | hn
  · obtain ⟨m, hm⟩ := Int.eq_ofNat_of_zero_le (show 0 ≤ 0 - n by walk_at "om")
    have e := numS_neg hn
    rw [hm, numS_nat] at e
    have l2 := ln n
    rw [e, List.length_cons] at l2
    refine go m _ (by rw [e]; rfl) (by walk_at "om") (fun z => by walk_at "om")
  · obtain ⟨m, rfl⟩ := Int.eq_ofNat_of_zero_le hn
    have e := numS_nat m
    have l2 := ln m
    rw [e] at l2
    refine go m _ ?_ (by walk_at "om") (fun z => by rw [z]; decide +kernel)
    rw [e]
    refine figL_other fun z => ?_
    cases ed : (Nat.toDigits 10 m).map Char.toNat with
    | nil => rw [ed] at z; cases z
    | cons c r =>
      have := dig_nat m c (by rw [ed]; exact List.mem_cons_self)
      rw [ed] at z
      cases z
      omega
-- @@split
/-! ### a row read -/
/-- rows of the form of a paper's -/
noncomputable def RgR (r : Rw) : Prop := (r.1 = "flow" ∧ r.2.length = 4) ∨ (r.1 = "number" ∧ r.2.length = 3)
theorem RgR.wanted {r : Rw} (h : RgR r) : hasW r.1 (r.2.length : Int) = true := by
  rcases h with ⟨h1, h2⟩ | ⟨h1, h2⟩ <;> rw [h1, h2] <;> decide +kernel
theorem RgR.free {r : Rw} (h : RgR r) {c : Nat} (hc : c = 32 ∨ c = 10) : c ∉ r.1.cps.toList := by
  rcases h with ⟨h1, _⟩ | ⟨h1, _⟩ <;> rw [h1]
  · rw [show ("flow" : Str).cps.toList = [102, 108, 111, 119] by decide +kernel]
    simp only [List.mem_cons, List.not_mem_nil, or_false]
    omega
  · rw [show ("number" : Str).cps.toList = [110, 117, 109, 98, 101, 114] by decide +kernel]
    simp only [List.mem_cons, List.not_mem_nil, or_false]
    omega
theorem words_free {r : Rw} (h : RgR r) {c : Nat} (hc : c = 32 ∨ c = 10) : ∀ w ∈ r.1 :: r.2.map numS, c ∉ w.cps.toList := fun w hw => by
  rcases List.mem_cons.mp hw with rfl | hw
  · exact h.free hc
  · obtain ⟨n, _, rfl⟩ := List.mem_map.mp hw
    exact numS_free (by walk_at "om")
theorem split_rtext {r : Rw} (h : RgR r) : Txt.split (rtext r) " " = r.1 :: r.2.map numS := split_join (c := 32) (by simp) (words_free h (.inl rfl))
theorem rtext_free {r : Rw} (h : RgR r) : 10 ∉ (rtext r).cps.toList := fun z => by
  unfold rtext at z
  rw [show Txt.join blank (r.1 :: r.2.map numS) = blank.join _ from StrLaws.glued_eq_join _ _, PyProof.Rows.mem_join] at z
  rcases z with ⟨t, ht, hc⟩ | ⟨_, hc⟩
  · exact words_free h (.inr rfl) t ht hc
  · rw [show blank.cps.toList = [32] from rfl] at hc
    simp at hc
@[irreducible] noncomputable def sp_read_row : Sp := fun vs H Q _ => ∃ (r : Rw), vs = [.str (rtext r)] ∧ RgR r ∧ OkR r ∧ ∀ p H', H p = none → Same H H' → RwT H' p r → Q (.ref p) H'
theorem read_row_rd {H : Hp} {r : Rw} {Q : VK} {E : XK} (h1 : RgR r) (h2 : OkR r) (q : ∀ p H', H p = none → Same H H' → RwT H' p r → Q (.ref p) H') : sp_read_row [.str (rtext r)] H Q E := by unfold sp_read_row; exact ⟨r, rfl, h1, h2, q⟩
theorem range_vals {α : Type} {f : α → V} {xs : List α} {d : α} {n : Nat} (hn : n = xs.length) : ((List.range n).map fun j => f (xs.getD j d)) = xs.map f := by
  subst hn
  apply List.ext_getElem?
  intro i
  rw [List.getElem?_map, List.getElem?_map]
  by_cases hi : i < xs.length
  · rw [List.getElem?_range hi, List.getElem?_eq_getElem hi]
    show some (f (xs.getD i d)) = _
    rw [List.getD_eq_getElem?_getD, List.getElem?_eq_getElem hi]
    rfl
  · rw [List.getElem?_eq_none (by simpa using hi), List.getElem?_eq_none (by walk_at "om")]
    rfl
set_option maxHeartbeats 0 in
theorem ok_read_row {f : Addr} {fd : FuncData} (F : Fun K "read_row" "read_row" s_read_row f fd) (N : Nm mg) (D_has_wanted : Def P w K mg base CX0 1 "has_wanted" ["word", "many"] sp_has_wanted) (D_is_number : Def P w K mg base CX0 1 "is_number" ["word"] sp_is_number) : FnOk P w K mg base CX0 2 f fd ["piece"] sp_read_row := by
  refine F.ok sc_read_row (fun vs H Q E h => by unfold sp_read_row at h; obtain ⟨_, rfl, _⟩ := h; rfl) (fun cdv A outer s H vs Q E hr h => ?_)
  unfold sp_read_row at h
  obtain ⟨r, rfl, hg, o, q⟩ := h
  have hu := hu40 hr
  have o2 := o.l
  have ln := rtext_len o
  have wl := words_len o
  refine ⟨_, (pss_cons (psS (i := 1) sc_read_row.nd (peM_split (K := K) rfl (pq 0) (pa_cons pe_str pa_nil)))
      (pss_cons (psIf (ptW (pwOr (pt_not (ptV (pD D_has_wanted hr pass0 (pa_cons (peIxK (K := K) rfl (pq 1) pe_int) (pa_cons (pe_op oSub (pB (cLenK (K := K) rfl) N.len_ bt_len (pa_cons (pq 1) pa_nil)) pe_int) pa_nil))))) (pw_or1 (pt_not (ptV (pB (cAllK (K := K) rfl rfl) N.all_ bt_all (pa_cons (peComp (N := ["word"]) (ks := [none]) (piSeqK (K := K) rfl (pe_slice (slZK (K := K) rfl) (pq 1) (poSome pe_int) po_none)) (fun cl C s3 H3 fp => (pg_name (i := 0) nb_5 rfl (by first | exact Or.inl rfl | exact Or.inr rfl))) (fun cl C s3 H3 fp => pts_nil) (fun cl C s3 H3 fp => (pD D_is_number hr pass0 (pa_cons (pq 0) pa_nil))) (.skip .nil)) pa_nil))))))) (pss_one (ps_ret pe_non)) pss_nil)
      (pss_one (ps_ret (pT (cTupK (K := K) rfl) N.tuple_ bt_tuple (pa_cons (pe_op oAdd (peLst (pa_cons (peIxK (K := K) rfl (pq 1) pe_int) pa_nil)) (peComp (N := ["word"]) (ks := [none]) (piSeqK (K := K) rfl (pe_slice (slZK (K := K) rfl) (pq 1) (poSome pe_int) po_none)) (fun cl C s3 H3 fp => (pg_name (i := 0) nb_5 rfl (by first | exact Or.inl rfl | exact Or.inr rfl))) (fun cl C s3 H3 fp => pts_nil) (fun cl C s3 H3 fp => (pT cIntT N.int_ bt_int (pa_cons (pq 0) pa_nil))) (.skip .nil))) pa_nil)))))), ?_⟩
  refine split_rd (by decide +kernel) (by rw [sizeLine_eq]; omega) (fun l H1 g1 s1 k1 => ?_)
  rw [split_rtext hg] at k1
  refine ixL_rd (v := .str r.1) k1 (atI_nat (j := 0) rfl) ?_
  refine lenL_rd k1 ?_
  rw [List.length_map, List.length_cons, List.length_map]
  refine has_wanted_rd ?_
  rw [show ((r.2.length + 1 : Nat) : Int) - 1 = (r.2.length : Int) by walk_at "om", hg.wanted]
  refine br_not (br_T ?_)
  refine slL_rd (SqL.of k1) (fun l2 H2 g2 s2 k2 => ?_)
  rw [cut_drop (by decide)] at k2
  have k2 : H2 l2 = some (.lst ((r.2.map numS).map V.str)) := k2
  refine iterL_rd k2 ?_
  refine comp_I (n := ((r.2.map numS).map V.str).length) (Wk.list (SqL.of k2)) (by rw [List.length_map, List.length_map, sizeLine_eq]; omega) (fun _ => .bl true) (fun _ => true) (fun j σ => ∃ t : Option V, σ = [t]) ⟨none, rfl⟩ ?_ ?_
  · rintro j v σ J' R' S' hj sJ hx ⟨_, rfl⟩ kk _
    rw [List.getElem?_map, List.getElem?_map] at hx
    obtain ⟨n, en, rfl⟩ := Option.map_eq_some_iff.mp (by rw [Option.map_map] at hx; exact hx)
    have sm := o.n n (List.mem_of_getElem? en)
    refine br_T ?_
    refine is_number_rd (by have := numS_len sm; omega) (fun J1 t1 => ?_)
    rw [numS_is sm]
    walk_at "wh"
    exact kk rfl _ _ t1 ⟨_, rfl⟩
  intro acc H3 g3 s3 k3
  have eb : ∀ n, ((List.range n).map fun _ => V.bl true) = ((List.range n).map fun _ => true).map V.bl := fun n => by rw [List.map_map]; rfl
  rw [filter_T, eb] at k3
  refine all_rd k3 ?_
  rw [show (((List.range ((r.2.map numS).map V.str).length).map fun _ => true).all id) = true by rw [List.all_eq_true]; intro b hb; obtain ⟨_, _, rfl⟩ := List.mem_map.mp hb; rfl]
  walk_at "wh"
  first | refine br_not (br_T ?_) | refine br_F ?_
  have s13 := s2.trans s3
  refine ixL_rd (v := .str r.1) (s13 _ _ k1) (atI_nat (j := 0) rfl) ?_
  refine newL_rd (fun l4 H4 g4 s4 k4 => ?_)
  refine slL_rd (SqL.of ((s13.trans s4) _ _ k1)) (fun l5 H5 g5 s5 k5 => ?_)
  rw [cut_drop (by decide)] at k5
  have k5 : H5 l5 = some (.lst ((r.2.map numS).map V.str)) := k5
  refine iterL_rd k5 ?_
  refine comp_I (n := ((r.2.map numS).map V.str).length) (Wk.list (SqL.of k5)) (by rw [List.length_map, List.length_map, sizeLine_eq]; omega) (fun j => .int (r.2.getD j 0)) (fun _ => true) (fun j σ => ∃ t : Option V, σ = [t]) ⟨none, rfl⟩ ?_ ?_
  · rintro j v σ J' R' S' hj sJ hx ⟨_, rfl⟩ kk _
    rw [List.getElem?_map, List.getElem?_map] at hx
    obtain ⟨n, en, rfl⟩ := Option.map_eq_some_iff.mp (by rw [Option.map_map] at hx; exact hx)
    have sm := o.n n (List.mem_of_getElem? en)
    rw [show r.2.getD j 0 = n by rw [List.getD_eq_getElem?_getD, en]; rfl] at kk
    have nl := numS_len sm
    refine br_T ?_
    refine intT_rd (numS_reads (n := n) (by walk_at "om")) (show (numS n).length ≤ 640 by walk_at "om") ?_
    walk_at "wh"
    exact kk rfl _ _ (Same.refl _) ⟨_, rfl⟩
  intro acc2 H6 g6 s6 k6
  rw [filter_T, range_vals (f := V.int) (xs := r.2) (d := 0) (by rw [List.length_map, List.length_map])] at k6
  refine cat_rd ((s5.trans s6) _ _ k4) k6 (by rw [List.length_map, sizeLine_eq, List.length_singleton]; omega) (fun l7 H7 g7 s7 k7 => ?_)
  refine tupL_rd (SqL.of k7) (fun p H8 g8 s8 k8 => ?_)
  walk_at "wh"
  have s07 := ((((s1.trans s13).trans s4).trans s5).trans s6).trans s7
  exact q p H8 (s07.free g8) (s07.trans s8) k8
/-! ### rows that stand behind one another -/
noncomputable def fsB : Option Rw → Rw → Bool
  | none, r => decide (r.2.getD 0 0 = 0)
  | some a, r => decide (a.1 = "flow") && (decide (r.2.getD 0 0 - a.2.getD 0 0 = 0) || decide (r.2.getD 0 0 - a.2.getD 0 0 = 1))
noncomputable def nsB : Option Rw → Rw → Bool
  | none, r => decide (r.2.getD 0 0 = 0 ∧ r.2.getD 1 0 = 0)
  | some a, r => if a.1 = "flow" then decide (r.2.getD 0 0 = 0 ∧ r.2.getD 1 0 = 0) else decide (r.2.getD 0 0 = a.2.getD 0 0 ∧ r.2.getD 1 0 = a.2.getD 1 0 + 1) || decide (r.2.getD 0 0 = a.2.getD 0 0 + 1 ∧ r.2.getD 1 0 = 0)
noncomputable def spB (a : Option Rw) (r : Rw) : Bool := if r.1 = "flow" then fsB a r else decide (r.1 = "number") && nsB a r
/-- the row ahead as it is handed on -/
noncomputable def AhV (H : Hp) (v : V) : Option Rw → Prop
  | none => v = .non
  | some r => ∃ p, v = .ref p ∧ RwT H p r ∧ RgR r
theorem AhV.same {H H' : Hp} {v : V} {a : Option Rw} (h : AhV H v a) (s : Same H H') : AhV H' v a := by
  cases a with
  | none => exact h
  | some r => obtain ⟨p, e, h1, h2⟩ := h; exact ⟨p, e, s _ _ h1, h2⟩
theorem RgR.get {r : Rw} (h : RgR r) {i : Nat} (hi : i < 3) : (V.str r.1 :: r.2.map V.int)[i + 1]? = some (.int (r.2.getD i 0)) := by
  have l : i < r.2.length := by rcases h with ⟨_, h⟩ | ⟨_, h⟩ <;> omega
  rw [List.getElem?_cons_succ, List.getElem?_map, List.getD_eq_getElem?_getD, List.getElem?_eq_getElem l]
  rfl
theorem inV_01 (d : Int) : inV (.int d) [.int 0, .int 1] = (decide (d = 0) || decide (d = 1)) := by
  show (eqV (.int 0) (.int d) || (eqV (.int 1) (.int d) || false)) = _
  rw [Bool.or_false]
  show (decide ((0 : Int) = d) || decide ((1 : Int) = d)) = _
  rw [show decide ((0 : Int) = d) = decide (d = 0) by rw [decide_eq_decide]; exact eq_comm, show decide ((1 : Int) = d) = decide (d = 1) by rw [decide_eq_decide]; exact eq_comm]
@[irreducible] noncomputable def sp_flow_stands : Sp := fun vs H Q _ => ∃ (v : V) (p : Addr) (a : Option Rw) (r : Rw), vs = [v, .ref p] ∧ AhV H v a ∧ RwT H p r ∧ RgR r ∧ ∀ H', Same H H' → Q (.bl (fsB a r)) H'
theorem flow_stands_rd {H : Hp} {v : V} {p : Addr} {a : Option Rw} {r : Rw} {Q : VK} {E : XK} (h1 : AhV H v a) (h2 : RwT H p r) (h3 : RgR r) (q : ∀ H', Same H H' → Q (.bl (fsB a r)) H') : sp_flow_stands [v, .ref p] H Q E := by unfold sp_flow_stands; exact ⟨v, p, a, r, rfl, h1, h2, h3, q⟩
set_option maxHeartbeats 0 in
theorem ok_flow_stands {f : Addr} {fd : FuncData} (F : Fun K "flow_stands" "flow_stands" s_flow_stands f fd) (N : Nm mg) : FnOk P w K mg base CX0 1 f fd ["ahead", "row"] sp_flow_stands := by
  refine F.ok sc_flow_stands (fun vs H Q E h => by unfold sp_flow_stands at h; obtain ⟨_, _, _, _, rfl, _⟩ := h; rfl) (fun cdv A outer s H vs Q E hr h => ?_)
  unfold sp_flow_stands at h
  obtain ⟨v, p, a, r, rfl, h1, h2, h3, q⟩ := h
  have hu := hu40 hr
  have r0 := atI_nat (h3.get (i := 0) (by decide))
  refine ⟨_, (pss_cons (psIf (ptC oIsX (pq 0) pe_non) (pss_one (ps_ret (peC (oEqXK (K := K) rfl (by exact hu)) (peIxK (K := K) rfl (pq 1) pe_int) pe_int))) pss_nil)
      (pss_one (ps_ret (peAnd (peC (oEqXK (K := K) rfl (by exact hu)) (peIxK (K := K) rfl (pq 0) pe_int) pe_str) (pe_one (peC (oInTTK (K := K) rfl (by exact hu)) (pe_op oSub (peIxK (K := K) rfl (pq 1) pe_int) (peIxK (K := K) rfl (pq 0) pe_int)) (peTup (pa_cons pe_int (pa_cons pe_int pa_nil))))))))), ?_⟩
  cases a with
  | none =>
    cases (show v = .non from h1)
    walk_at "wh"
    first | refine br_T ?_ | refine br_dT rfl ?_
    refine ixT_rd (v := .int (r.2.getD 0 0)) h2 r0 ?_
    walk_at "wh"
    exact q H (Same.refl _)
  | some b =>
    obtain ⟨pa, rfl, g1, g2⟩ := h1
    have a0 := atI_nat (g2.get (i := 0) (by decide))
    have q : ∀ H', Same H H' → Q (.bl (decide (b.1 = "flow") && (decide (r.2.getD 0 0 - b.2.getD 0 0 = 0) || decide (r.2.getD 0 0 - b.2.getD 0 0 = 1)))) H' := q
    walk_at "wh"
    first | refine br_F ?_ | refine br_dF (fun z => by cases z) ?_
    refine ixT_rd (v := .str b.1) g1 (atI_nat (j := 0) rfl) ?_
    walk_at "wh"
    by_cases hb : b.1 = "flow"
    · rw [decide_eq_true hb] at q ⊢
      refine br_T ?_
      refine ixT_rd (v := .int (r.2.getD 0 0)) h2 r0 ?_
      refine ixT_rd (v := .int (b.2.getD 0 0)) g1 a0 ?_
      refine newT_rd (fun t H1 f1 s1 k1 => ?_)
      refine inT_rd (SqT.of k1) rfl rfl ?_
      rw [inV_01]
      exact q H1 s1
    · rw [decide_eq_false hb] at q ⊢
      refine br_F ?_
      walk_at "wh"
      exact q H (Same.refl _)
@[irreducible] noncomputable def sp_number_stands : Sp := fun vs H Q _ => ∃ (v : V) (p : Addr) (a : Option Rw) (r : Rw), vs = [v, .ref p] ∧ AhV H v a ∧ RwT H p r ∧ RgR r ∧ ∀ H', Same H H' → Q (.bl (nsB a r)) H'
theorem number_stands_rd {H : Hp} {v : V} {p : Addr} {a : Option Rw} {r : Rw} {Q : VK} {E : XK} (h1 : AhV H v a) (h2 : RwT H p r) (h3 : RgR r) (q : ∀ H', Same H H' → Q (.bl (nsB a r)) H') : sp_number_stands [v, .ref p] H Q E := by unfold sp_number_stands; exact ⟨v, p, a, r, rfl, h1, h2, h3, q⟩
set_option maxHeartbeats 0 in
theorem ok_number_stands {f : Addr} {fd : FuncData} (F : Fun K "number_stands" "number_stands" s_number_stands f fd) (N : Nm mg) : FnOk P w K mg base CX0 1 f fd ["ahead", "row"] sp_number_stands := by
  refine F.ok sc_number_stands (fun vs H Q E h => by unfold sp_number_stands at h; obtain ⟨_, _, _, _, rfl, _⟩ := h; rfl) (fun cdv A outer s H vs Q E hr h => ?_)
  unfold sp_number_stands at h
  obtain ⟨v, p, a, r, rfl, h1, h2, h3, q⟩ := h
  have hu := hu40 hr
  have r0 := atI_nat (h3.get (i := 0) (by decide))
  have r1 := atI_nat (h3.get (i := 1) (by decide))
  refine ⟨_, (pss_cons (psS (i := 2) sc_number_stands.nd (peTup (pa_cons (peIxK (K := K) rfl (pq 1) pe_int) (pa_cons (peIxK (K := K) rfl (pq 1) pe_int) pa_nil))))
      (pss_cons (psIf (ptW (pwOr (ptC oIsX (pq 0) pe_non) (pw_or1 (ptC (oEqXK (K := K) rfl (by exact hu)) (peIxK (K := K) rfl (pq 0) pe_int) pe_str)))) (pss_one (ps_ret (peC (oEqXK (K := K) rfl (by exact hu)) (pq 2) (peTup (pa_cons pe_int (pa_cons pe_int pa_nil)))))) pss_nil)
      (pss_one (ps_ret (peC (oInTTK (K := K) rfl (by exact hu)) (pq 2) (peTup (pa_cons (peTup (pa_cons (peIxK (K := K) rfl (pq 0) pe_int) (pa_cons (pe_op oAdd (peIxK (K := K) rfl (pq 0) pe_int) pe_int) pa_nil))) (pa_cons (peTup (pa_cons (pe_op oAdd (peIxK (K := K) rfl (pq 0) pe_int) pe_int) (pa_cons pe_int pa_nil))) pa_nil)))))))), ?_⟩
  refine ixT_rd (v := .int (r.2.getD 0 0)) h2 r0 ?_
  refine ixT_rd (v := .int (r.2.getD 1 0)) h2 r1 ?_
  refine newT_rd (fun t H1 f1 s1 k1 => ?_)
  have z : ∀ b, (nsB a r = b) → b = decide (r.2.getD 0 0 = 0 ∧ r.2.getD 1 0 = 0) → ∀ u H2, Same H1 H2 → H2 u = some (.tup [.int 0, .int 0]) → rEqXM K (.ref t) (.ref u) H2 Q := fun b e1 e2 u H2 s2 k2 => by
    have := q H2 (s1.trans s2)
    rw [e1, e2] at this
    exact eqX_rd (EqR.ints2 (s2 _ _ k1) k2) this
  cases a with
  | none =>
    cases (show v = .non from h1)
    walk_at "wh"
    first | refine br_T ?_ | refine br_dT rfl ?_
    walk_at "wh"
    first | refine br_T ?_ | skip
    refine newT_rd (fun u H2 f2 s2 k2 => ?_)
    walk_at "wh"
    exact z _ rfl rfl u H2 s2 k2
  | some b =>
    obtain ⟨pa, rfl, g1, g2⟩ := h1
    have a0 := atI_nat (g2.get (i := 0) (by decide))
    have a1 := atI_nat (g2.get (i := 1) (by decide))
    have g1' := s1 _ _ g1
    walk_at "wh"
    first | refine br_F ?_ | refine br_dF (fun z => by cases z) ?_
    refine ixT_rd (v := .str b.1) g1' (atI_nat (j := 0) rfl) ?_
    refine br_dec (fun hb => ?_) (fun hb => ?_)
    · walk_at "wh"
      refine newT_rd (fun u H2 f2 s2 k2 => ?_)
      walk_at "wh"
      exact z _ rfl (by show (if b.1 = "flow" then _ else _) = _; rw [if_pos hb]) u H2 s2 k2
    · have q : ∀ H', Same H H' → Q (.bl (decide (r.2.getD 0 0 = b.2.getD 0 0 ∧ r.2.getD 1 0 = b.2.getD 1 0 + 1) || decide (r.2.getD 0 0 = b.2.getD 0 0 + 1 ∧ r.2.getD 1 0 = 0))) H' := by
        have q : ∀ H', Same H H' → Q (.bl (if b.1 = "flow" then decide (r.2.getD 0 0 = 0 ∧ r.2.getD 1 0 = 0) else decide (r.2.getD 0 0 = b.2.getD 0 0 ∧ r.2.getD 1 0 = b.2.getD 1 0 + 1) || decide (r.2.getD 0 0 = b.2.getD 0 0 + 1 ∧ r.2.getD 1 0 = 0))) H' := q
        simp only [if_neg hb] at q
        exact q
      refine ixT_rd (v := .int (b.2.getD 0 0)) g1' a0 ?_
      refine ixT_rd (v := .int (b.2.getD 1 0)) g1' a1 ?_
      refine newT_rd (fun u H2 f2 s2 k2 => ?_)
      refine ixT_rd (v := .int (b.2.getD 0 0)) (s2 _ _ g1') a0 ?_
      refine newT_rd (fun u2 H3 f3 s3 k3 => ?_)
      refine newT_rd (fun u3 H4 f4 s4 k4 => ?_)
      have s24 := s3.trans s4
      walk_at "wh"
      have nuu : u ≠ u2 := ne_of_none k2 f3
      refine inTT_rd (rs := [u, u2]) (c := fun x => if x = u then decide (b.2.getD 0 0 = r.2.getD 0 0 ∧ b.2.getD 1 0 + 1 = r.2.getD 1 0) else decide (b.2.getD 0 0 + 1 = r.2.getD 0 0 ∧ 0 = r.2.getD 1 0)) 1 k4 (by decide) (fun x hx => ?_) ?_
      · simp only [List.mem_cons, List.not_mem_nil, or_false] at hx
        rcases hx with rfl | rfl
        · rw [if_pos rfl]
          exact EqR.ints2 (s24 _ _ k2) ((s2.trans s24) _ _ k1)
        · rw [if_neg (Ne.symm nuu)]
          exact EqR.ints2 (s4 _ _ k3) ((s2.trans s24) _ _ k1)
      · have := q H4 ((s1.trans s2).trans s24)
        show Q (.bl ([u, u2].any fun x => if x = u then decide (b.2.getD 0 0 = r.2.getD 0 0 ∧ b.2.getD 1 0 + 1 = r.2.getD 1 0) else decide (b.2.getD 0 0 + 1 = r.2.getD 0 0 ∧ 0 = r.2.getD 1 0))) H4
        rw [List.any_cons, List.any_cons, List.any_nil, Bool.or_false, if_pos rfl, if_neg (Ne.symm nuu)]
        rw [show decide (b.2.getD 0 0 = r.2.getD 0 0 ∧ b.2.getD 1 0 + 1 = r.2.getD 1 0) = decide (r.2.getD 0 0 = b.2.getD 0 0 ∧ r.2.getD 1 0 = b.2.getD 1 0 + 1) by rw [decide_eq_decide]; exact ⟨fun h => ⟨h.1.symm, h.2.symm⟩, fun h => ⟨h.1.symm, h.2.symm⟩⟩, show decide (b.2.getD 0 0 + 1 = r.2.getD 0 0 ∧ 0 = r.2.getD 1 0) = decide (r.2.getD 0 0 = b.2.getD 0 0 + 1 ∧ r.2.getD 1 0 = 0) by rw [decide_eq_decide]; exact ⟨fun h => ⟨h.1.symm, h.2.symm⟩, fun h => ⟨h.1.symm, h.2.symm⟩⟩]
        exact this
@[irreducible] noncomputable def sp_stands_in_paper : Sp := fun vs H Q _ => ∃ (v : V) (p : Addr) (a : Option Rw) (r : Rw), vs = [v, .ref p] ∧ AhV H v a ∧ RwT H p r ∧ RgR r ∧ ∀ H', Same H H' → Q (.bl (spB a r)) H'
theorem stands_rd {H : Hp} {v : V} {p : Addr} {a : Option Rw} {r : Rw} {Q : VK} {E : XK} (h1 : AhV H v a) (h2 : RwT H p r) (h3 : RgR r) (q : ∀ H', Same H H' → Q (.bl (spB a r)) H') : sp_stands_in_paper [v, .ref p] H Q E := by unfold sp_stands_in_paper; exact ⟨v, p, a, r, rfl, h1, h2, h3, q⟩
theorem ok_stands_in_paper {f : Addr} {fd : FuncData} (F : Fun K "stands_in_paper" "stands_in_paper" s_stands_in_paper f fd) (N : Nm mg) (D_flow_stands : Def P w K mg base CX0 1 "flow_stands" ["ahead", "row"] sp_flow_stands) (D_number_stands : Def P w K mg base CX0 1 "number_stands" ["ahead", "row"] sp_number_stands) : FnOk P w K mg base CX0 2 f fd ["ahead", "row"] sp_stands_in_paper := by
  refine F.ok sc_stands_in_paper (fun vs H Q E h => by unfold sp_stands_in_paper at h; obtain ⟨_, _, _, _, rfl, _⟩ := h; rfl) (fun cdv A outer s H vs Q E hr h => ?_)
  unfold sp_stands_in_paper at h
  obtain ⟨v, p, a, r, rfl, h1, h2, h3, q⟩ := h
  have hu := hu40 hr
  refine ⟨_, (pss_cons (psIf (ptC (oEqXK (K := K) rfl (by exact hu)) (peIxK (K := K) rfl (pq 1) pe_int) pe_str) (pss_one (ps_ret (pD D_flow_stands hr pass0 (pa_cons (pq 0) (pa_cons (pq 1) pa_nil))))) pss_nil)
      (pss_one (ps_ret (peAnd (peC (oEqXK (K := K) rfl (by exact hu)) (peIxK (K := K) rfl (pq 1) pe_int) pe_str) (pe_one (pD D_number_stands hr pass0 (pa_cons (pq 0) (pa_cons (pq 1) pa_nil)))))))), ?_⟩
  refine ixT_rd (v := .str r.1) h2 (atI_nat (j := 0) rfl) ?_
  refine br_dec (fun hb => ?_) (fun hb => ?_)
  · unfold spB at q
    simp only [if_pos hb] at q
    refine flow_stands_rd h1 h2 h3 (fun H1 s1 => ?_)
    walk_at "wh"
    exact q H1 s1
  · unfold spB at q
    simp only [if_neg hb] at q
    refine ixT_rd (v := .str r.1) h2 (atI_nat (j := 0) rfl) ?_
    walk_at "wh"
    by_cases hn : r.1 = "number"
    · rw [decide_eq_true hn] at q ⊢
      refine br_T ?_
      refine number_stands_rd h1 h2 h3 (fun H1 s1 => ?_)
      walk_at "wh"
      exact q H1 s1
    · rw [decide_eq_false hn] at q ⊢
      refine br_F ?_
      walk_at "wh"
      exact q H (Same.refl _)
-- @@split
/-! ### rows read -/
noncomputable def ahead (rs : List Rw) (i : Nat) : Option Rw := if i = 0 then none else rs[i - 1]?
structure OkRs (rs : List Rw) : Prop where
  l : rs.length ≤ 400
  g : ∀ r ∈ rs, RgR r
  o : ∀ r ∈ rs, OkR r
  s : ∀ (i : Nat) r, rs[i]? = some r → spB (ahead rs i) r = true
theorem textR_len {rs : List Rw} (h : OkRs rs) : (textR rs).length ≤ 10000000 := by
  have h1 := joined_len ⟨#[]⟩ (rs.map fun r => rtext r ++ lineE)
  have h2 := lens_le (xs := rs.map fun r => rtext r ++ lineE) (m := 20001) fun x hx => by
    obtain ⟨r, hr, rfl⟩ := List.mem_map.mp hx
    have := rtext_len (h.o r hr)
    have e := congrArg List.length (PySem.W.KT.app_list (rtext r) lineE)
    rw [List.length_append, Array.length_toList, Array.length_toList, Array.length_toList] at e
    show (rtext r ++ lineE).cps.size ≤ 20001
    have e1 : lineE.cps.size = 1 := rfl
    have e2 : (rtext r).cps.size ≤ 20000 := this
    omega
  have l := h.l
  rw [List.length_map] at h1 h2
  unfold textR
  have e0 : (⟨#[]⟩ : Str).length = 0 := rfl
  rw [e0] at h1
  omega
theorem split_textR {rs : List Rw} (h : OkRs rs) : Txt.split (textR rs) "\n" = rs.map rtext ++ [⟨#[]⟩] := by
  have e : textR rs = Txt.join ⟨#[]⟩ ((rs.map rtext).map fun x => x ++ (⟨#[10]⟩ : Str)) := by
    unfold textR
    rw [List.map_map]
    rfl
  rw [e]
  exact split_rows (c := 10) fun w hw => by
    obtain ⟨r, hr, rfl⟩ := List.mem_map.mp hw
    exact rtext_free (h.g r hr)
@[irreducible] noncomputable def sp_read_rows (mg : Str → Option Value) : Sp := fun vs H Q _ => ∃ (v : V) (rs : List Rw), vs = [.str (textR rs), v] ∧ isFn mg "stands_in_paper" v ∧ OkRs rs ∧ ∀ l ps H', H l = none → Same H H' → RwsAt H' l ps rs → Q (.ref l) H'
theorem read_rows_rd {mg : Str → Option Value} {H : Hp} {v : V} {rs : List Rw} {Q : VK} {E : XK} (h : isFn mg "stands_in_paper" v) (o : OkRs rs) (q : ∀ l ps H', H l = none → Same H H' → RwsAt H' l ps rs → Q (.ref l) H') : sp_read_rows mg [.str (textR rs), v] H Q E := by unfold sp_read_rows; exact ⟨v, rs, rfl, h, o, q⟩
theorem RwsAt.snoc {H H' : Hp} {l p : Addr} {ps : List Addr} {rs : List Rw} {r : Rw} (R : RwsAt H l ps rs) (c : Chg l H H') (h : H' l = some (.lst (ps.map V.ref ++ [.ref p]))) (hp : RwT H' p r) : RwsAt H' l (ps ++ [p]) (rs ++ [r]) := by
  refine RwsAt.ext (qs := [p]) (us := [r]) (by rw [h]; rfl) R.len rfl (fun i p' r' e1 e2 => ?_) (fun i p' r' e1 e2 => ?_)
  · have := R.row i p' r' e1 e2
    refine c _ _ (fun z => ?_) this
    unfold RwT at this
    rw [z, R.out] at this
    cases this
  · cases i with
    | zero => cases e1; cases e2; exact hp
    | succ i => simp at e1
set_option maxHeartbeats 0 in
theorem ok_read_rows {f : Addr} {fd : FuncData} (F : Fun K "read_rows" "read_rows" s_read_rows f fd) (N : Nm mg) (D_read_row : Def P w K mg base CX0 2 "read_row" ["piece"] sp_read_row) (D_stands_in_paper : Def P w K mg base CX0 2 "stands_in_paper" ["ahead", "row"] sp_stands_in_paper) : FnOk P w K mg base CX0 3 f fd ["text", "stands"] (sp_read_rows mg) := by
  refine F.ok sc_read_rows (fun vs H Q E h => by unfold sp_read_rows at h; obtain ⟨_, _, rfl, _⟩ := h; rfl) (fun cdv A outer s H vs Q E hr h => ?_)
  unfold sp_read_rows at h
  obtain ⟨v, rs, rfl, hf, o, q⟩ := h
  have hu := hu40 hr
  have ol := o.l
  have tl := textR_len o
  refine ⟨_, (pss_cons (psS (i := 2) sc_read_rows.nd (peM_split (K := K) rfl (pq 0) (pa_cons pe_str pa_nil)))
      (pss_cons (psS (i := 3) sc_read_rows.nd (peLst pa_nil))
      (pss_cons (psS (i := 4) sc_read_rows.nd pe_non)
      (pss_cons (psFor PassesOwn.never rfl (piEnumK (K := K) rfl N.enumerate_ (pa_cons (pe_slice (slZK (K := K) rfl) (pq 2) po_none (poSome (pe_un uNeg pe_int))) pa_nil)) (pgAnyK (K := K) (n := 2) rfl rfl (pgsCons (pg_name (i := 5) sc_read_rows.nd rfl (by first | exact Or.inl rfl | exact Or.inr rfl)) (pgsCons (pg_name (i := 6) sc_read_rows.nd rfl (by first | exact Or.inl rfl | exact Or.inr rfl)) pgsNil))) (pss_cons (psS (i := 7) sc_read_rows.nd (pD D_read_row hr pass0 (pa_cons (pq 6) pa_nil)))
      (pss_cons (psIf (ptW (pwOr (ptC oIsX (pq 7) pe_non) (pw_or1 (pt_not (ptV (pDL (i := 1) D_stands_in_paper hr pass0 (pa_cons (pq 4) (pa_cons (pq 7) pa_nil)))))))) (pss_one ps_never) pss_nil)
      (pss_cons (ps_expr (peM_append (pq 3) (pa_cons (pq 7) pa_nil)))
      (pss_one (psS (i := 4) sc_read_rows.nd (pq 7)))))))
      (pss_cons (psIf (ptC (oNeXK (K := K) rfl (by exact hu)) (peIxK (K := K) rfl (pq 2) (pe_un uNeg pe_int)) pe_str) (pss_one ps_never) pss_nil)
      (pss_one (ps_ret (pq 3)))))))), ?_⟩
  refine split_rd (by decide +kernel) (by rw [sizeLine_eq]; omega) (fun pc H1 g1 s1 k1 => ?_)
  rw [split_textR o] at k1
  have k1 : H1 pc = some (.lst ((rs.map rtext).map V.str ++ [.str ⟨#[]⟩])) := by rw [k1, List.map_append]; rfl
  refine newL_rd (fun l H2 g2 s2 k2 => ?_)
  have s02 := s1.trans s2
  have fl : H l = none := s1.free g2
  refine slL_rd (SqL.of (s2 _ _ k1)) (fun pi H3 g3 s3 k3 => ?_)
  rw [cut_init, List.length_append, List.length_map, List.length_map, List.length_singleton, Nat.add_sub_cancel, List.take_left' (by rw [List.length_map, List.length_map])] at k3
  have npl : pi ≠ l := Ne.symm (ne_of_none k2 g3)
  have ncl : pc ≠ l := ne_of_none k1 g2
  refine enum_rd k3 ?_
  refine loop_enum (xs := (rs.map rtext).map V.str) (fun i σ I => ∃ (va : V) (y5 y6 y7 : Option V) (ps : List Addr), σ = [some (.str (textR rs)), some v, some (.ref pc), some (.ref l), some va, y5, y6, y7] ∧ Same H I ∧ I pc = some (.lst ((rs.map rtext).map V.str ++ [.str ⟨#[]⟩])) ∧ I pi = some (.lst ((rs.map rtext).map V.str)) ∧ RwsAt I l ps (rs.take i) ∧ AhV I va (ahead rs i)) ?_ ?_ ?_ ?_
  · exact ⟨_, _, _, _, [], rfl, s02.trans s3, (s2.trans s3) _ _ k1, k3, ⟨s3 _ _ k2, rfl, fun i p r e => by simp at e⟩, rfl⟩
  · rintro i σ I _ ⟨_, _, _, _, _, _, _, _, h, _⟩
    exact SqL.of h
  · rintro i y σ I e I' hy ⟨va, y5, y6, y7, ps, rfl, sI, hpc, hpi, R, Ah⟩ fe sE he
    rw [List.getElem?_map, List.getElem?_map] at hy
    obtain ⟨r, er, rfl⟩ := Option.map_eq_some_iff.mp (by rw [Option.map_map] at hy; exact hy)
    have hr' := List.mem_of_getElem? er
    have hi := (List.getElem?_eq_some_iff.mp er).1
    have pl := R.len
    rw [List.length_take] at pl
    refine unpT_rd he ?_
    refine read_row_rd (o.g r hr') (o.o r hr') (fun p J1 f1 t1 h1 => ?_)
    have sJ := sE.trans t1
    walk_at "wh"
    first | refine br_F ?_ | refine br_dF (fun z => by cases z) ?_
    walk_at "wh"
    refine ⟨hf, ?_⟩
    refine stands_rd (Ah.same sJ) h1 (o.g r hr') (fun J2 t2 => ?_)
    rw [o.s i r er]
    have sJ2 := sJ.trans t2
    have nlp : p ≠ l := Ne.symm (ne_of_none (sE _ _ R.out) f1)
    walk_at "wh"
    first | refine br_not (br_T ?_) | refine br_F ?_
    refine lst_is (sJ2 _ _ R.out) ?_
    refine app_rd (sJ2 _ _ R.out) (by rw [List.length_map, sizeLine_eq]; omega) (fun J3 c3 k4 => ?_)
    have hp3 : RwT J3 p r := c3 _ _ nlp (t2 _ _ h1)
    walk_at "wh"
    refine ⟨.ref p, _, _, _, ps ++ [p], rfl, fun b o z => c3 _ _ (ne_of_none z fl) ((sI.trans sJ2) _ _ z), c3 _ _ ncl (sJ2 _ _ hpc), c3 _ _ npl (sJ2 _ _ hpi), ?_, ?_⟩
    · rw [List.take_succ, er]
      exact (R.same sJ2).snoc c3 k4 hp3
    · unfold ahead
      rw [if_neg (by walk_at "om"), Nat.add_sub_cancel, er]
      exact ⟨p, rfl, hp3, o.g r hr'⟩
  · rintro σ I ⟨va, y5, y6, y7, ps, rfl, sI, hpc, hpi, R, Ah⟩
    rw [List.length_map, List.length_map, List.take_length] at R
    refine ixL_rd (v := .str ⟨#[]⟩) hpc (at_last (n := rs.length) (by rw [List.length_append, List.length_map, List.length_map]; rfl) (by rw [List.getElem?_append_right (by rw [List.length_map, List.length_map]; omega), List.length_map, List.length_map, Nat.sub_self]; rfl)) ?_
    walk_at "wh"
    first | refine br_F ?_ | refine br_not (br_dT (by decide +kernel) ?_) | refine br_not (br_T ?_)
    walk_at "wh"
    exact q l ps I fl sI R
-- @@split
/-! ### things put by their fields -/
noncomputable def stepB (acc : List (List V)) (x : Nat × V) : List (List V) := (if x.1 = acc.length then acc ++ [[]] else acc).set x.1 ((if x.1 = acc.length then acc ++ [[]] else acc).getD x.1 [] ++ [x.2])
/-- lists in a new list, none at two places -/
structure LsN (H0 H : Hp) (L : Addr) (qs : List Addr) (acc : List (List V)) : Prop where
  fr : H0 L = none
  out : H L = some (.lst (qs.map V.ref))
  len : qs.length = acc.length
  nd : (L :: qs).Nodup
  row : ∀ (i : Nat) q xs, qs[i]? = some q → acc[i]? = some xs → H0 q = none ∧ H q = some (.lst xs)
theorem LsN.same {H0 H H' : Hp} {L : Addr} {qs : List Addr} {acc : List (List V)} (R : LsN H0 H L qs acc) (s : Same H H') : LsN H0 H' L qs acc := ⟨R.fr, s _ _ R.out, R.len, R.nd, fun i q xs e1 e2 => ⟨(R.row i q xs e1 e2).1, s _ _ (R.row i q xs e1 e2).2⟩⟩
theorem stepB_len (acc : List (List V)) (x : Nat × V) : (stepB acc x).length = if x.1 = acc.length then acc.length + 1 else acc.length := by
  unfold stepB
  rw [List.length_set]
  split
  · rw [List.length_append]; rfl
  · rfl
theorem midB_mem {acc : List (List V)} {k m : Nat} (h : ∀ ys ∈ acc, ys.length ≤ m) : ∀ ys ∈ (if k = acc.length then acc ++ [[]] else acc), ys.length ≤ m := fun ys hy => by
  split at hy
  · rcases List.mem_append.mp hy with hy | hy
    · exact h ys hy
    · rw [List.mem_singleton.mp hy]; exact Nat.zero_le _
  · exact h ys hy
theorem stepB_mem {acc : List (List V)} {x : Nat × V} {m : Nat} (h : ∀ ys ∈ acc, ys.length ≤ m) : ∀ ys ∈ stepB acc x, ys.length ≤ m + 1 := fun ys hy => by
  unfold stepB at hy
  have hm := midB_mem (k := x.1) h
  rcases List.mem_or_eq_of_mem_set hy with hy | rfl
  · have := hm ys hy; omega
  · rw [List.length_append, List.length_singleton, List.getD_eq_getElem?_getD]
    cases e : (if x.1 = acc.length then acc ++ [[]] else acc)[x.1]? with
    | none => show 0 + 1 ≤ m + 1; omega
    | some z => have := hm z (List.mem_of_getElem? e); show z.length + 1 ≤ m + 1; omega
@[irreducible] noncomputable def sp_by_fields : Sp := fun vs H Q _ => ∃ (l : Addr) (ts : List Addr) (sq : List (Nat × V)), vs = [.ref l] ∧ H l = some (.lst (ts.map V.ref)) ∧ ts.length = sq.length ∧ (∀ (i : Nat) t x, ts[i]? = some t → sq[i]? = some x → H t = some (.tup [.int x.1, x.2])) ∧ sq.length ≤ 1000 ∧ (∀ (i : Nat) x, sq[i]? = some x → x.1 ≤ ((sq.take i).foldl stepB []).length) ∧ ∀ L qs H', Same H H' → LsN H H' L qs (sq.foldl stepB []) → Q (.ref L) H'
theorem by_fields_rd {H : Hp} {l : Addr} {ts : List Addr} {sq : List (Nat × V)} {Q : VK} {E : XK} (h : H l = some (.lst (ts.map V.ref))) (hl : ts.length = sq.length) (ht : ∀ (i : Nat) t x, ts[i]? = some t → sq[i]? = some x → H t = some (.tup [.int x.1, x.2])) (h1 : sq.length ≤ 1000) (h2 : ∀ (i : Nat) x, sq[i]? = some x → x.1 ≤ ((sq.take i).foldl stepB []).length) (q : ∀ L qs H', Same H H' → LsN H H' L qs (sq.foldl stepB []) → Q (.ref L) H') : sp_by_fields [.ref l] H Q E := by unfold sp_by_fields; exact ⟨l, ts, sq, rfl, h, hl, ht, h1, h2, q⟩
theorem LsN.put {H0 H H' : Hp} {L q : Addr} {qs : List Addr} {acc : List (List V)} {k : Nat} {ys : List V} (R : LsN H0 H L qs acc) (e : qs[k]? = some q) (c : Chg q H H') (h : H' q = some (.lst ys)) : LsN H0 H' L qs (acc.set k ys) := by
  have hk := (List.getElem?_eq_some_iff.mp e).1
  have nd := R.nd
  rw [List.nodup_cons] at nd
  refine ⟨R.fr, c _ _ (fun z => nd.1 (by rw [z]; exact List.mem_of_getElem? e)) R.out, by rw [List.length_set]; exact R.len, R.nd, fun i q' xs e1 e2 => ?_⟩
  by_cases hi : i = k
  · subst hi
    rw [e] at e1
    cases e1
    rw [List.getElem?_set_self (by have := R.len; omega)] at e2
    cases e2
    obtain ⟨z, ez⟩ : ∃ z, acc[i]? = some z := ⟨_, List.getElem?_eq_getElem (by have := R.len; omega)⟩
    exact ⟨(R.row i q z e ez).1, h⟩
  · rw [List.getElem?_set_ne (fun z => hi z.symm)] at e2
    obtain ⟨r1, r2⟩ := R.row i q' xs e1 e2
    refine ⟨r1, c _ _ (fun z => hi ?_) r2⟩
    subst z
    exact (List.getElem?_inj (List.getElem?_eq_some_iff.mp e1).1 nd.2).mp (e1.trans e.symm)
theorem LsN.snoc {H0 H1 H H' : Hp} {L q : Addr} {qs : List Addr} {acc : List (List V)} (R : LsN H0 H1 L qs acc) (s0 : Same H0 H1) (g : H1 q = none) (s : Same H1 H) (hq : H q = some (.lst [])) (c : Chg L H H') (h : H' L = some (.lst (qs.map V.ref ++ [.ref q]))) : LsN H0 H' L (qs ++ [q]) (acc ++ [[]]) := by
  have nd := R.nd
  rw [List.nodup_cons] at nd
  have nql : q ≠ L := Ne.symm (ne_of_none R.out g)
  have old : ∀ x ∈ qs, x ≠ q := fun x hx z => by
    obtain ⟨i, ei⟩ := List.getElem?_of_mem hx
    obtain ⟨ys, ey⟩ : ∃ z, acc[i]? = some z := ⟨_, List.getElem?_eq_getElem (by have := R.len; have := (List.getElem?_eq_some_iff.mp ei).1; omega)⟩
    have := (R.row i x ys ei ey).2
    rw [z, g] at this
    cases this
  refine ⟨R.fr, by rw [h, List.map_append]; rfl, by rw [List.length_append, List.length_append, R.len]; rfl, ?_, fun i q' xs e1 e2 => ?_⟩
  · rw [List.nodup_cons, List.mem_append, List.nodup_append]
    refine ⟨fun z => ?_, nd.2, by simp, fun a ha b hb => ?_⟩
    · rcases z with z | z
      · exact nd.1 z
      · exact nql (List.mem_singleton.mp z).symm
    · rw [List.mem_singleton.mp hb]; exact old a ha
  · by_cases hi : i < qs.length
    · rw [List.getElem?_append_left hi] at e1
      rw [List.getElem?_append_left (by have := R.len; omega)] at e2
      obtain ⟨r1, r2⟩ := R.row i q' xs e1 e2
      exact ⟨r1, c _ _ (fun z => nd.1 (by rw [← z]; exact List.mem_of_getElem? e1)) (s _ _ r2)⟩
    · rw [List.getElem?_append_right (by walk_at "om")] at e1
      rw [List.getElem?_append_right (by have := R.len; omega), ← R.len] at e2
      have i0 : i - qs.length = 0 := by have := (List.getElem?_eq_some_iff.mp e1).1; simp at this; omega
      rw [i0] at e1 e2
      cases e1
      cases e2
      exact ⟨s0.free g, c _ _ nql hq⟩
set_option maxHeartbeats 0 in
theorem ok_by_fields {f : Addr} {fd : FuncData} (F : Fun K "by_fields" "by_fields" s_by_fields f fd) (N : Nm mg) : FnOk P w K mg base CX0 1 f fd ["pairs"] sp_by_fields := by
  refine F.ok sc_by_fields (fun vs H Q E h => by unfold sp_by_fields at h; obtain ⟨_, _, _, rfl, _⟩ := h; rfl) (fun cdv A outer s H vs Q E hr h => ?_)
  unfold sp_by_fields at h
  obtain ⟨l, ts, sq, rfl, hl0, tl, ht, sl, hk, q⟩ := h
  have hu := hu40 hr
  refine ⟨_, (pss_cons (psS (i := 1) sc_by_fields.nd (peLst pa_nil))
      (pss_cons (psFor PassesOwn.never rfl (piSeqK (K := K) rfl (pq 0)) (pgAnyK (K := K) (n := 2) rfl rfl (pgsCons (pg_name (i := 2) sc_by_fields.nd rfl (by first | exact Or.inl rfl | exact Or.inr rfl)) (pgsCons (pg_name (i := 3) sc_by_fields.nd rfl (by first | exact Or.inl rfl | exact Or.inr rfl)) pgsNil))) (pss_cons (psCut (psIf (ptC (oEqXK (K := K) rfl (by exact hu)) (pq 2) (pB (cLenK (K := K) rfl) N.len_ bt_len (pa_cons (pq 1) pa_nil))) (pss_one (ps_expr (peM_append (pq 1) (pa_cons (peLst pa_nil) pa_nil)))) pss_nil))
      (pss_one (ps_expr (peM_append (peIxK (K := K) rfl (pq 1) (pq 2)) (pa_cons (pq 3) pa_nil))))))
      (pss_one (ps_ret (pq 1))))), ?_⟩
  refine newL_rd (fun L H1 g1 s1 k1 => ?_)
  have nlL : l ≠ L := ne_of_none hl0 g1
  refine iterL_rd (s1 _ _ hl0) ?_
  refine loop_list (xs := ts.map V.ref) (fun i σ I => ∃ (y2 y3 : Option V) (qs : List Addr), σ = [some (.ref l), some (.ref L), y2, y3] ∧ Same H I ∧ LsN H I L qs ((sq.take i).foldl stepB []) ∧ ((sq.take i).foldl stepB []).length ≤ i ∧ ∀ ys ∈ (sq.take i).foldl stepB [], ys.length ≤ i) ?_ ?_ ?_ ?_
  · exact ⟨_, _, [], rfl, s1, ⟨g1, k1, rfl, by simp, fun i q xs e => by simp at e⟩, Nat.le_refl _, fun ys hy => by cases hy⟩
  · rintro i σ I _ ⟨_, _, _, _, sI, _⟩
    exact SqL.of (sI _ _ hl0)
  · rintro i y σ I hy ⟨y2, y3, qs, rfl, sI, R, al, am⟩
    rw [List.getElem?_map] at hy
    obtain ⟨t, et, rfl⟩ := Option.map_eq_some_iff.mp hy
    have hi := (List.getElem?_eq_some_iff.mp et).1
    obtain ⟨x, ex⟩ : ∃ x, sq[i]? = some x := ⟨_, List.getElem?_eq_getElem (by walk_at "om")⟩
    have kx := hk i x ex
    have ql := R.len
    have sl2 := stepB_len ((sq.take i).foldl stepB []) x
    have fo : ((sq.take (i + 1)).foldl stepB []) = stepB ((sq.take i).foldl stepB []) x := by rw [List.take_succ, ex, List.foldl_append]; rfl
    rw [fo]
    generalize (sq.take i).foldl stepB [] = acc at R al am kx ql sl2 ⊢
    refine unpT_rd (sI _ _ (ht i t x et ex)) ?_
    refine cut_rd (fun σ J => ∃ qs', σ = [some (.ref l), some (.ref L), some (.int x.1), some x.2] ∧ Same H J ∧ LsN H J L qs' (if x.1 = acc.length then acc ++ [[]] else acc)) ?_ ?_
    · walk_at "wh"
      refine lenL_rd R.out ?_
      rw [List.length_map, ql]
      refine br_dec (fun hx => ?_) (fun hx => ?_)
      · walk_at "wh"
        refine lst_is R.out ?_
        refine newL_rd (fun q0 J1 f1 t1 h1 => ?_)
        refine app_rd (t1 _ _ R.out) (by rw [List.length_map, sizeLine_eq]; omega) (fun J2 c2 h2 => ?_)
        walk_at "wh"
        refine ⟨qs ++ [q0], rfl, fun b o z => c2 _ _ (ne_of_none z R.fr) ((sI.trans t1) _ _ z), ?_⟩
        rw [if_pos (by walk_at "om")]
        exact R.snoc sI f1 t1 h1 c2 h2
      · walk_at "wh"
        refine ⟨qs, rfl, sI, ?_⟩
        rw [if_neg (by walk_at "om")]
        exact R
    rintro σ J ⟨qs', rfl, sJ, R'⟩
    have ql' := R'.len
    have kl : x.1 < (if x.1 = acc.length then acc ++ [[]] else acc).length := by
      split
      · rw [List.length_append, List.length_singleton]; omega
      · omega
    obtain ⟨q0, eq0⟩ : ∃ q0, qs'[x.1]? = some q0 := ⟨_, List.getElem?_eq_getElem (by walk_at "om")⟩
    obtain ⟨xs, exs⟩ : ∃ z, (if x.1 = acc.length then acc ++ [[]] else acc)[x.1]? = some z := ⟨_, List.getElem?_eq_getElem kl⟩
    obtain ⟨fq, hq0⟩ := R'.row x.1 q0 xs eq0 exs
    have gd : (if x.1 = acc.length then acc ++ [[]] else acc).getD x.1 [] = xs := by rw [List.getD_eq_getElem?_getD, exs]; rfl
    refine ixL_rd (v := .ref q0) R'.out (atI_nat (by rw [List.getElem?_map, eq0]; rfl)) ?_
    refine lst_is hq0 ?_
    walk_at "wh"
    have xl : xs.length ≤ i := midB_mem am xs (List.mem_of_getElem? exs)
    refine app_rd hq0 (by rw [sizeLine_eq]; omega) (fun J3 c3 h3 => ?_)
    walk_at "wh"
    refine ⟨_, _, qs', rfl, fun b o z => c3 _ _ (ne_of_none z fq) (sJ _ _ z), ?_, ?_, stepB_mem am⟩
    · unfold stepB
      rw [gd]
      exact R'.put eq0 c3 h3
    · rw [sl2]; split <;> omega
  · rintro σ I ⟨y2, y3, qs, rfl, sI, R, al, _⟩
    rw [List.length_map, tl, List.take_length] at R
    walk_at "wh"
    exact q L qs I sI R
/-- groups, field by field -/
noncomputable def grp : Nat → List (List V) → List (Nat × V)
  | _, [] => []
  | k, g :: r => g.map (fun v => (k, v)) ++ grp (k + 1) r
theorem fold_grp : ∀ (g : List V) (acc : List (List V)) (k : Nat), k + 1 = acc.length → (g.map fun v => (k, v)).foldl stepB acc = acc.set k (acc.getD k [] ++ g)
  | [], acc, k, h => by
    show acc = _
    rw [List.append_nil, List.getD_eq_getElem?_getD, List.getElem?_eq_getElem (by walk_at "om")]
    show acc = acc.set k acc[k]
    rw [List.set_getElem_self]
  | v :: g, acc, k, h => by
    show (g.map fun v => (k, v)).foldl stepB (stepB acc (k, v)) = _
    have e : stepB acc (k, v) = acc.set k (acc.getD k [] ++ [v]) := by
      unfold stepB
      rw [if_neg (by walk_at "om")]
    rw [e, fold_grp g _ k (by rw [List.length_set]; exact h)]
    rw [List.set_set, List.getD_eq_getElem?_getD, List.getElem?_set_self (by walk_at "om")]
    show acc.set k (acc.getD k [] ++ [v] ++ g) = _
    rw [List.append_assoc]
    rfl
theorem fold_one {g : List V} (hg : g ≠ []) (acc : List (List V)) : (g.map fun v => (acc.length, v)).foldl stepB acc = acc ++ [g] := by
  cases g with
  | nil => exact absurd rfl hg
  | cons v g =>
    show (g.map fun v => (acc.length, v)).foldl stepB (stepB acc (acc.length, v)) = _
    have e : stepB acc (acc.length, v) = acc ++ [[v]] := by
      unfold stepB
      rw [if_pos rfl, List.getD_eq_getElem?_getD, List.getElem?_append_right (Nat.le_refl _), Nat.sub_self, List.set_append_right _ _ (Nat.le_refl _), Nat.sub_self]
      rfl
    rw [e, fold_grp g (acc ++ [[v]]) acc.length (by rw [List.length_append]; rfl), List.set_append_right _ _ (Nat.le_refl _), Nat.sub_self, List.getD_eq_getElem?_getD, List.getElem?_append_right (Nat.le_refl _), Nat.sub_self]
    rfl
theorem fold_all : ∀ (gs acc : List (List V)), (∀ g ∈ gs, g ≠ []) → (grp acc.length gs).foldl stepB acc = acc ++ gs
  | [], acc, _ => by show acc = _; rw [List.append_nil]
  | g :: gs, acc, h => by
    show (g.map (fun v => (acc.length, v)) ++ grp (acc.length + 1) gs).foldl stepB acc = _
    rw [List.foldl_append, fold_one (h g (.head _)) acc, show acc.length + 1 = (acc ++ [g]).length by rw [List.length_append]; rfl, fold_all gs (acc ++ [g]) fun x hx => h x (.tail _ hx), List.append_assoc]
    rfl
/-- each thing's field is one that is there, or the next one -/
theorem grp_le : ∀ (gs acc : List (List V)), (∀ g ∈ gs, g ≠ []) → ∀ (i : Nat) x, (grp acc.length gs)[i]? = some x → x.1 ≤ (((grp acc.length gs).take i).foldl stepB acc).length
  | [], acc, _, i, x, e => by simp [grp] at e
  | g :: gs, acc, h, i, x, e => by
    have grow : ∀ (ys : List (Nat × V)) (a : List (List V)), a.length ≤ (ys.foldl stepB a).length := fun ys => by
      induction ys with
      | nil => exact fun a => Nat.le_refl _
      | cons y ys ih =>
        intro a
        refine Nat.le_trans ?_ (ih (stepB a y))
        rw [stepB_len]; split <;> omega
    have e : (g.map (fun v => (acc.length, v)) ++ grp (acc.length + 1) gs)[i]? = some x := e
    show x.1 ≤ (((g.map (fun v => (acc.length, v)) ++ grp (acc.length + 1) gs).take i).foldl stepB acc).length
    by_cases hi : i < g.length
    · rw [List.getElem?_append_left (by rw [List.length_map]; exact hi), List.getElem?_map] at e
      obtain ⟨v, _, rfl⟩ := Option.map_eq_some_iff.mp e
      exact grow _ _
    · rw [List.getElem?_append_right (by rw [List.length_map]; omega), List.length_map] at e
      rw [List.take_append, List.length_map, List.take_of_length_le (by rw [List.length_map]; omega), List.foldl_append, fold_one (h g (.head _)) acc]
      rw [show acc.length + 1 = (acc ++ [g]).length by rw [List.length_append]; rfl] at e ⊢
      exact grp_le gs (acc ++ [g]) (fun x hx => h x (.tail _ hx)) (i - g.length) x e
-- @@split
/-! ### a paper read -/
noncomputable def chn : Option Rw → List Rw → Prop
  | _, [] => True
  | a, r :: rs => spB a r = true ∧ chn (some r) rs
noncomputable def lstO (a : Option Rw) : List Rw → Option Rw
  | [] => a
  | r :: rs => lstO (some r) rs
theorem chn_app : ∀ {xs ys : List Rw} {a : Option Rw}, chn a xs → chn (lstO a xs) ys → chn a (xs ++ ys)
  | [], _, _, _, h => h
  | x :: xs, ys, a, h, g => ⟨h.1, chn_app (xs := xs) h.2 g⟩
theorem chn_at : ∀ {rs : List Rw} {a : Option Rw}, chn a rs → ∀ (i : Nat) r, rs[i]? = some r → spB (if i = 0 then a else rs[i - 1]?) r = true
  | [], _, _, i, r, e => by simp at e
  | x :: rs, a, h, 0, r, e => by cases e; exact h.1
  | x :: rs, a, h, i + 1, r, e => by
    have := chn_at (rs := rs) h.2 i r e
    rw [if_neg (by walk_at "om"), Nat.add_sub_cancel]
    cases i with
    | zero => exact this
    | succ j => rw [if_neg (by walk_at "om"), Nat.add_sub_cancel] at this; exact this
noncomputable def OkA (k : Nat) (a : Option Rw) : Prop := (a = none ∧ k = 0) ∨ ∃ j z, a = some (flR j z) ∧ (j = k ∨ j + 1 = k)
theorem fl_stands {k : Nat} {z : F3} {a : Option Rw} (h : OkA k a) : spB a (flR k z) = true := by
  show (if ("flow" : Str) = "flow" then fsB a (flR k z) else _) = true
  rw [if_pos rfl]
  rcases h with ⟨rfl, rfl⟩ | ⟨j, y, rfl, h⟩
  · rfl
  · show (decide (("flow" : Str) = "flow") && (decide ((k : Int) - (j : Int) = 0) || decide ((k : Int) - (j : Int) = 1))) = true
    rw [decide_eq_true rfl, Bool.true_and, Bool.or_eq_true, decide_eq_true_eq, decide_eq_true_eq]
    omega
theorem chn_fl {k : Nat} : ∀ {xs : List F3} {a : Option Rw}, OkA k a → chn a (xs.map (flR k)) ∧ (xs ≠ [] → ∃ z, lstO a (xs.map (flR k)) = some (flR k z))
  | [], a, _ => ⟨trivial, fun h => absurd rfl h⟩
  | [x], a, h => ⟨⟨fl_stands h, trivial⟩, fun _ => ⟨x, rfl⟩⟩
  | x :: y :: xs, a, h => by
    have ih := chn_fl (k := k) (xs := y :: xs) (a := some (flR k x)) (.inr ⟨k, x, rfl, .inl rfl⟩)
    exact ⟨⟨fl_stands h, ih.1⟩, fun _ => ih.2 (by simp)⟩
theorem lst_app : ∀ (xs ys : List Rw) (a : Option Rw), lstO a (xs ++ ys) = lstO (lstO a xs) ys
  | [], _, _ => rfl
  | x :: xs, ys, a => lst_app xs ys (some x)
theorem chn_flows : ∀ {xss : List (List F3)} {k : Nat} {a : Option Rw}, (∀ xs ∈ xss, xs ≠ []) → OkA k a → chn a (flowsR k xss) ∧ (xss ≠ [] → ∃ j z, lstO a (flowsR k xss) = some (flR j z))
  | [], k, a, _, _ => ⟨trivial, fun h => absurd rfl h⟩
  | xs :: xss, k, a, hn, h => by
    obtain ⟨c1, l1⟩ := chn_fl (xs := xs) h
    obtain ⟨z, e⟩ := l1 (hn xs (.head _))
    have ih := chn_flows (xss := xss) (k := k + 1) (a := some (flR k z)) (fun ys hy => hn ys (.tail _ hy)) (.inr ⟨k, z, rfl, .inr rfl⟩)
    refine ⟨chn_app c1 (by rw [e]; exact ih.1), fun _ => ?_⟩
    show ∃ j z, lstO a (xs.map (flR k) ++ flowsR (k + 1) xss) = _
    rw [lst_app, e]
    by_cases hx : xss = []
    · subst hx; exact ⟨k, z, rfl⟩
    · exact ih.2 hx
noncomputable def OkU (k c : Nat) (a : Option Rw) : Prop := (∃ j z, a = some (flR j z) ∧ k = 0 ∧ c = 0) ∨ (∃ n, a = some (nuR k (c - 1) n) ∧ 1 ≤ c) ∨ ∃ j d n, a = some (nuR j d n) ∧ j + 1 = k ∧ c = 0
theorem nu_stands {k c : Nat} {n : Int} {a : Option Rw} (h : OkU k c a) : spB a (nuR k c n) = true := by
  show (if ("number" : Str) = "flow" then _ else decide (("number" : Str) = "number") && nsB a (nuR k c n)) = true
  rw [if_neg (by decide +kernel), decide_eq_true rfl, Bool.true_and]
  have nf : ∀ j d m, nsB (some (nuR j d m)) (nuR k c n) = (decide ((k : Int) = (j : Int) ∧ (c : Int) = (d : Int) + 1) || decide ((k : Int) = (j : Int) + 1 ∧ (c : Int) = 0)) := fun j d m => by
    show (if ("number" : Str) = "flow" then decide (((k : Int)) = 0 ∧ ((c : Int)) = 0) else (decide ((k : Int) = (j : Int) ∧ (c : Int) = (d : Int) + 1) || decide ((k : Int) = (j : Int) + 1 ∧ (c : Int) = 0))) = _
    rw [if_neg (by decide +kernel)]
  rcases h with ⟨j, z, rfl, rfl, rfl⟩ | ⟨m, rfl, hc⟩ | ⟨j, d, m, rfl, rfl, rfl⟩
  · show (if ("flow" : Str) = "flow" then decide (((0 : Nat) : Int) = 0 ∧ ((0 : Nat) : Int) = 0) else (decide (((0 : Nat) : Int) = (j : Int) ∧ ((0 : Nat) : Int) = z.1 + 1) || decide (((0 : Nat) : Int) = (j : Int) + 1 ∧ ((0 : Nat) : Int) = 0))) = true
    rw [if_pos rfl]
    rfl
  · rw [nf, Bool.or_eq_true, decide_eq_true_eq]
    exact .inl ⟨rfl, by walk_at "om"⟩
  · rw [nf, Bool.or_eq_true, decide_eq_true_eq, decide_eq_true_eq]
    exact .inr ⟨by walk_at "om", rfl⟩
theorem chn_nu {k : Nat} : ∀ {ns : List Int} {c : Nat} {a : Option Rw}, OkU k c a → chn a (numR k c ns) ∧ (ns ≠ [] → ∃ d n, lstO a (numR k c ns) = some (nuR k d n))
  | [], c, a, _ => ⟨trivial, fun h => absurd rfl h⟩
  | [n], c, a, h => ⟨⟨nu_stands h, trivial⟩, fun _ => ⟨c, n, rfl⟩⟩
  | n :: m :: ns, c, a, h => by
    have ih := chn_nu (k := k) (ns := m :: ns) (c := c + 1) (a := some (nuR k c n)) (.inr (.inl ⟨n, by rw [Nat.add_sub_cancel], by walk_at "om"⟩))
    exact ⟨⟨nu_stands h, ih.1⟩, fun _ => ih.2 (by simp)⟩
theorem chn_nums : ∀ {nss : List (List Int)} {k : Nat} {a : Option Rw}, (∀ ns ∈ nss, ns ≠ []) → OkU k 0 a → chn a (numsR k nss)
  | [], k, a, _, _ => trivial
  | ns :: nss, k, a, hn, h => by
    obtain ⟨c1, l1⟩ := chn_nu (ns := ns) h
    obtain ⟨d, n, e⟩ := l1 (hn ns (.head _))
    exact chn_app c1 (by rw [e]; exact chn_nums (fun ys hy => hn ys (.tail _ hy)) (.inr (.inr ⟨k, d, n, rfl, rfl, rfl⟩)))
theorem PxB.rows {xss : List (List F3)} {nss : List (List Int)} (B : PxB xss nss) : OkRs (flowsR 0 xss ++ numsR 0 nss) := by
  have l1 := flowsR_len (l := 20) 0 (xss := xss) fun xs hx => (B.rl xs hx).2
  have l2 := numsR_len (l := 20) 0 (nss := nss) fun xs hx => (B.nl xs hx).2
  have f1 := B.fl
  have t1 := B.tl
  have nx : ∀ xs ∈ xss, xs ≠ [] := fun xs hx z => by have := (B.rl xs hx).1; rw [z] at this; exact absurd this (by decide)
  have nn : ∀ ns ∈ nss, ns ≠ [] := fun xs hx z => by have := (B.nl xs hx).1; rw [z] at this; exact absurd this (by decide)
  obtain ⟨c1, e1⟩ := chn_flows (k := 0) (a := none) nx (.inl ⟨rfl, rfl⟩)
  obtain ⟨j, z, e⟩ := e1 (fun z => by rw [z] at f1; exact absurd f1.1 (by decide))
  have ch : chn none (flowsR 0 xss ++ numsR 0 nss) := chn_app c1 (by rw [e]; exact chn_nums nn (.inl ⟨j, z, rfl, rfl, rfl⟩))
  refine ⟨by rw [List.length_append]; omega, fun r hr => ?_, fun r hr => ?_, chn_at ch⟩
  · rcases List.mem_append.mp hr with hr | hr
    · exact flowsR_all (P := RgR) (m := 1000) (by walk_at "om") (fun xs _ z _ j _ => .inl ⟨rfl, rfl⟩) r hr
    · exact numsR_all (P := RgR) (m := 1000) (l := 20) (by walk_at "om") (fun ns hn => (B.nl ns hn).2) (fun ns _ n _ j _ c _ => .inr ⟨rfl, rfl⟩) r hr
  · rcases List.mem_append.mp hr with hr | hr
    · exact B.okF r hr
    · exact B.okN r hr
noncomputable def isF (r : Rw) : Bool := decide (r.1 = "flow")
noncomputable def isN (r : Rw) : Bool := decide (r.1 = "number")
theorem filt_all {p : Rw → Bool} {rs : List Rw} (h : ∀ r ∈ rs, p r = true) : rs.filter p = rs := List.filter_eq_self.mpr h
theorem filt_none {p : Rw → Bool} {rs : List Rw} (h : ∀ r ∈ rs, p r = false) : rs.filter p = [] := List.filter_eq_nil_iff.mpr fun r hr => by rw [h r hr]; exact Bool.false_ne_true
theorem PxB.flowsF {xss : List (List F3)} {nss : List (List Int)} (B : PxB xss nss) : (flowsR 0 xss ++ numsR 0 nss).filter isF = flowsR 0 xss := by
  rw [List.filter_append, filt_all (flowsR_all (P := fun r => isF r = true) (m := 1000) (by have := B.fl; omega) fun xs _ z _ j _ => rfl), filt_none (numsR_all (P := fun r => isF r = false) (m := 1000) (l := 20) (by have := B.tl; omega) (fun ns hn => (B.nl ns hn).2) fun ns _ n _ j _ c _ => by show decide (("number" : Str) = "flow") = false; decide +kernel), List.append_nil]
theorem PxB.numsF {xss : List (List F3)} {nss : List (List Int)} (B : PxB xss nss) : (flowsR 0 xss ++ numsR 0 nss).filter isN = numsR 0 nss := by
  rw [List.filter_append, filt_none (flowsR_all (P := fun r => isN r = false) (m := 1000) (by have := B.fl; omega) fun xs _ z _ j _ => by show decide (("flow" : Str) = "number") = false; decide +kernel), filt_all (numsR_all (P := fun r => isN r = true) (m := 1000) (l := 20) (by have := B.tl; omega) (fun ns hn => (B.nl ns hn).2) fun ns _ n _ j _ c _ => rfl), List.nil_append]
/-- addresses, cut as the rows are -/
noncomputable def cutA : List (List F3) → List Addr → List (List Addr)
  | [], _ => []
  | xs :: r, as => as.take xs.length :: cutA r (as.drop xs.length)
theorem cutA_len : ∀ (xss : List (List F3)) (as : List Addr), (cutA xss as).length = xss.length
  | [], _ => rfl
  | xs :: r, as => by show (cutA r (as.drop xs.length)).length + 1 = _; rw [cutA_len r]; rfl
theorem cutA_grp : ∀ (xss : List (List F3)) (k : Nat) (as : List Addr), as.length = (flowsR k xss).length → ((flowsR k xss).zip as).map (fun x => ((x.1.2.getD 0 0).toNat, V.ref x.2)) = grp k ((cutA xss as).map fun bs => bs.map V.ref)
  | [], k, as, h => by
    show (([] : List Rw).zip as).map _ = []
    rfl
  | xs :: xss, k, as, h => by
    show ((xs.map (flR k) ++ flowsR (k + 1) xss).zip as).map _ = ((as.take xs.length).map V.ref).map (fun v => (k, v)) ++ grp (k + 1) ((cutA xss (as.drop xs.length)).map fun bs => bs.map V.ref)
    have h : as.length = (xs.map (flR k) ++ flowsR (k + 1) xss).length := h
    rw [List.length_append, List.length_map] at h
    have ih := cutA_grp xss (k + 1) (as.drop xs.length) (by rw [List.length_drop]; omega)
    rw [← ih]
    conv => lhs; rw [show as = as.take xs.length ++ as.drop xs.length from (List.take_append_drop _ _).symm]
    rw [List.zip_append (by rw [List.length_map, List.length_take]; omega), List.map_append]
    congr 1
    apply List.ext_getElem?
    intro i
    rw [List.getElem?_map, List.getElem?_map, List.getElem?_map]
    by_cases hi : i < xs.length
    · have e1 : (xs.map (flR k))[i]? = some (flR k xs[i]) := by rw [List.getElem?_map, List.getElem?_eq_getElem hi]; rfl
      obtain ⟨a, ea⟩ : ∃ a, (as.take xs.length)[i]? = some a := ⟨_, List.getElem?_eq_getElem (by rw [List.length_take]; omega)⟩
      have ez : ((xs.map (flR k)).zip (as.take xs.length))[i]? = some (flR k xs[i], a) := List.getElem?_zip_eq_some.mpr ⟨e1, ea⟩
      rw [ez, ea]
      show some (((k : Int)).toNat, V.ref a) = some (k, V.ref a)
      rw [Int.toNat_natCast]
    · rw [List.getElem?_eq_none (by rw [List.length_zip, List.length_map, List.length_take]; omega), List.getElem?_eq_none (by rw [List.length_take]; omega)]
      rfl
theorem cutA_at {H : Hp} : ∀ (xss : List (List F3)) (k : Nat) (as : List Addr), as.length = (flowsR k xss).length → (∀ (i : Nat) a r, as[i]? = some a → (flowsR k xss)[i]? = some r → H a = some (.tup [.int (r.2.getD 1 0), .int (r.2.getD 2 0), .int (r.2.getD 3 0)])) → ∀ (j : Nat) bs xs, (cutA xss as)[j]? = some bs → xss[j]? = some xs → bs.length = xs.length ∧ ∀ (i : Nat) b z, bs[i]? = some b → xs[i]? = some z → H b = some (.tup [.int z.1, .int z.2.1, .int z.2.2])
  | [], _, _, _, _, j, bs, xs, e, _ => by simp [cutA] at e
  | ys :: xss, k, as, h, ht, j, bs, xs, e1, e2 => by
    have h : as.length = (ys.map (flR k) ++ flowsR (k + 1) xss).length := h
    have ht : ∀ (i : Nat) a r, as[i]? = some a → (ys.map (flR k) ++ flowsR (k + 1) xss)[i]? = some r → H a = some (.tup [.int (r.2.getD 1 0), .int (r.2.getD 2 0), .int (r.2.getD 3 0)]) := ht
    rw [List.length_append, List.length_map] at h
    cases j with
    | zero =>
      cases e1
      cases e2
      refine ⟨by rw [List.length_take]; omega, fun i b z eb ez => ?_⟩
      have hi := (List.getElem?_eq_some_iff.mp ez).1
      rw [List.getElem?_take_of_lt hi] at eb
      have := ht i b (flR k z) eb (by rw [List.getElem?_append_left (by rw [List.length_map]; exact hi), List.getElem?_map, ez]; rfl)
      exact this
    | succ j =>
      refine cutA_at xss (k + 1) (as.drop ys.length) (by rw [List.length_drop]; omega) (fun i a r ea er => ?_) j bs xs e1 e2
      rw [List.getElem?_drop] at ea
      exact ht (ys.length + i) a r ea (by rw [List.getElem?_append_right (by rw [List.length_map]; omega), List.length_map, Nat.add_sub_cancel_left]; exact er)
theorem nums_grp : ∀ (nss : List (List Int)) (k : Nat), (numsR k nss).map (fun r => ((r.2.getD 0 0).toNat, V.int (r.2.getD 2 0))) = grp k (nss.map fun ns => ns.map V.int)
  | [], _ => rfl
  | ns :: nss, k => by
    show (numR k 0 ns ++ numsR (k + 1) nss).map _ = (ns.map V.int).map (fun v => (k, v)) ++ grp (k + 1) (nss.map fun ns => ns.map V.int)
    rw [List.map_append, nums_grp nss (k + 1)]
    congr 1
    have go : ∀ (c : Nat) (ns : List Int), (numR k c ns).map (fun r => ((r.2.getD 0 0).toNat, V.int (r.2.getD 2 0))) = (ns.map V.int).map (fun v => (k, v)) := fun c ns => by
      induction ns generalizing c with
      | nil => rfl
      | cons n ns ih =>
        show (((k : Int)).toNat, V.int n) :: (numR k (c + 1) ns).map _ = (k, V.int n) :: _
        rw [ih, Int.toNat_natCast]
    exact go 0 ns
-- @@split
structure PpN (H H' : Hp) (p st tb : Addr) (rs : List (Addr × List Addr)) (xss : List (List F3)) (qs : List Addr) (nss : List (List Int)) : Prop where
  pap : PpX H' p st tb rs xss qs nss
  nd : ((st :: rs.map (·.1)) ++ (tb :: qs)).Nodup
  fr : ∀ a ∈ (st :: rs.map (·.1)) ++ (tb :: qs), H a = none
@[irreducible] noncomputable def sp_read_paper : Sp := fun vs H Q _ => ∃ (xss : List (List F3)) (nss : List (List Int)), vs = [.str (papT xss nss)] ∧ PxB xss nss ∧ ∀ p st tb rs qs H', Same H H' → PpN H H' p st tb rs xss qs nss → Q (.ref p) H'
theorem read_paper_rd {H : Hp} {xss : List (List F3)} {nss : List (List Int)} {Q : VK} {E : XK} (B : PxB xss nss) (q : ∀ p st tb rs qs H', Same H H' → PpN H H' p st tb rs xss qs nss → Q (.ref p) H') : sp_read_paper [.str (papT xss nss)] H Q E := by unfold sp_read_paper; exact ⟨xss, nss, rfl, B, q⟩
theorem filt_succ {p : Rw → Bool} {rs : List Rw} {j : Nat} {r : Rw} (e : rs[j]? = some r) : (rs.take (j + 1)).filter p = (rs.take j).filter p ++ if p r = true then [r] else [] := by
  rw [List.take_succ, e, List.filter_append]
  congr 1
  show [r].filter p = _
  rw [List.filter_cons]
  split <;> rfl
theorem snoc_at {α β : Type} {R : α → β → Prop} {xs : List α} {ys : List β} {x : α} {y : β} (l : xs.length = ys.length) (h : ∀ (i : Nat) a b, xs[i]? = some a → ys[i]? = some b → R a b) (hn : R x y) : ∀ (i : Nat) a b, (xs ++ [x])[i]? = some a → (ys ++ [y])[i]? = some b → R a b := fun i a b e1 e2 => by
  by_cases hi : i < xs.length
  · rw [List.getElem?_append_left hi] at e1
    rw [List.getElem?_append_left (by walk_at "om")] at e2
    exact h i a b e1 e2
  · rw [List.getElem?_append_right (by walk_at "om")] at e1
    rw [List.getElem?_append_right (by walk_at "om"), ← l] at e2
    have i0 : i - xs.length = 0 := by have := (List.getElem?_eq_some_iff.mp e1).1; simp at this; omega
    rw [i0] at e1 e2
    cases e1
    cases e2
    exact hn
theorem getD3 {r : Rw} (h : r.2.length = 4) {i : Nat} (hi : i < 4) : (V.str r.1 :: r.2.map V.int)[i + 1]? = some (.int (r.2.getD i 0)) := by
  rw [List.getElem?_cons_succ, List.getElem?_map, List.getD_eq_getElem?_getD, List.getElem?_eq_getElem (by walk_at "om")]
  rfl
theorem len_sum : ∀ {nss : List (List Int)} {ns : List Int}, ns ∈ nss → ns.length ≤ (nss.map List.length).sum
  | [], _, h => by cases h
  | x :: xs, ns, h => by
    rw [List.map_cons, List.sum_cons]
    rcases List.mem_cons.mp h with rfl | h
    · omega
    · have := len_sum h; omega
theorem field_nat {xss : List (List F3)} {nss : List (List Int)} : (∀ r ∈ flowsR 0 xss, ∃ k : Nat, r.2.getD 0 0 = (k : Int)) ∧ ∀ r ∈ numsR 0 nss, ∃ k : Nat, r.2.getD 0 0 = (k : Int) :=
  ⟨flowsR_all (m := xss.length) (by walk_at "om") fun _ _ _ _ j _ => ⟨j, rfl⟩, numsR_all (m := nss.length) (l := (nss.map List.length).sum) (by walk_at "om") (fun ns hn => len_sum hn) fun _ _ _ _ j _ _ _ => ⟨j, rfl⟩⟩
set_option maxHeartbeats 0 in
theorem ok_read_paper {f : Addr} {fd : FuncData} (F : Fun K "read_paper" "read_paper" s_read_paper f fd) (N : Nm mg) (D_by_fields : Def P w K mg base CX0 1 "by_fields" ["pairs"] sp_by_fields) (D_read_rows : Def P w K mg base CX0 3 "read_rows" ["text", "stands"] (sp_read_rows mg)) (D_stands_in_paper : Def P w K mg base CX0 2 "stands_in_paper" ["ahead", "row"] sp_stands_in_paper) : FnOk P w K mg base CX0 4 f fd ["text"] sp_read_paper := by
  refine F.ok sc_read_paper (fun vs H Q E h => by unfold sp_read_paper at h; obtain ⟨_, _, rfl, _⟩ := h; rfl) (fun cdv A outer s H vs Q E hr h => ?_)
  unfold sp_read_paper at h
  obtain ⟨xss, nss, rfl, B, q⟩ := h
  have hu := hu40 hr
  have okr := B.rows
  have okl := okr.l
  have eF := B.flowsF
  have eN := B.numsF
  obtain ⟨natF, natN⟩ := field_nat (xss := xss) (nss := nss)
  refine ⟨_, (pss_cons (psS (i := 1) sc_read_paper.nd (pD D_read_rows hr pass0 (pa_cons (pq 0) (pa_cons (peFn D_stands_in_paper) pa_nil))))
      (pss_cons (psC (i := 2) (N := ["row"]) (ks := [none]) sc_read_paper.nd (piSeqK (K := K) rfl (pq 1)) (fun cl C s3 H3 fp => (pg_name (i := 0) nb_6 rfl (by first | exact Or.inl rfl | exact Or.inr rfl))) (fun cl C s3 H3 fp => (pts_one (ptC (oEqXK (K := K) rfl (by exact hu)) (peIxK (K := K) rfl (pq 0) pe_int) pe_str))) (fun cl C s3 H3 fp => (peTup (pa_cons (peIxK (K := K) rfl (pq 0) pe_int) (pa_cons (peTup (pa_cons (peIxK (K := K) rfl (pq 0) pe_int) (pa_cons (peIxK (K := K) rfl (pq 0) pe_int) (pa_cons (peIxK (K := K) rfl (pq 0) pe_int) pa_nil)))) pa_nil)))) (.skip .nil))
      (pss_cons (psC (i := 3) (N := ["row"]) (ks := [none]) sc_read_paper.nd (piSeqK (K := K) rfl (pq 1)) (fun cl C s3 H3 fp => (pg_name (i := 0) nb_6 rfl (by first | exact Or.inl rfl | exact Or.inr rfl))) (fun cl C s3 H3 fp => (pts_one (ptC (oEqXK (K := K) rfl (by exact hu)) (peIxK (K := K) rfl (pq 0) pe_int) pe_str))) (fun cl C s3 H3 fp => (peTup (pa_cons (peIxK (K := K) rfl (pq 0) pe_int) (pa_cons (peIxK (K := K) rfl (pq 0) pe_int) pa_nil)))) (.skip .nil))
      (pss_cons (psIf (ptW (pwOr (ptC (oEqXK (K := K) rfl (by exact hu)) (pB (cLenK (K := K) rfl) N.len_ bt_len (pa_cons (pq 2) pa_nil)) pe_int) (pw_or1 (ptC (oEqXK (K := K) rfl (by exact hu)) (pB (cLenK (K := K) rfl) N.len_ bt_len (pa_cons (pq 3) pa_nil)) pe_int)))) (pss_one ps_never) pss_nil)
      (pss_one (ps_ret (peTup (pa_cons (pD D_by_fields hr pass0 (pa_cons (pq 2) pa_nil)) (pa_cons (pD D_by_fields hr pass0 (pa_cons (pq 3) pa_nil)) pa_nil))))))))), ?_⟩
  refine fn_rd (fun v hv => ?_)
  refine read_rows_rd hv okr (fun l ps H1 g1 s1 R => ?_)
  generalize flowsR 0 xss ++ numsR 0 nss = rs at R okr okl eF eN
  have pl := R.len
  refine iterL_rd R.out ?_
  refine comp_A (n := (ps.map V.ref).length) (Wk.list (SqL.of R.out)) (by rw [List.length_map, sizeLine_eq]; omega) (fun acc j ys σ I => ∃ (t : Option V) (ts : List (Addr × Addr)), σ = [t] ∧ ys = ts.map (fun t => V.ref t.1) ∧ ts.length = ((rs.take j).filter isF).length ∧ ∀ (i : Nat) (t : Addr × Addr) (r : Rw), ts[i]? = some t → ((rs.take j).filter isF)[i]? = some r → (t.1 ≠ acc ∧ t.2 ≠ acc) ∧ I t.1 = some (.tup [.int (r.2.getD 0 0), .ref t.2]) ∧ I t.2 = some (.tup [.int (r.2.getD 1 0), .int (r.2.getD 2 0), .int (r.2.getD 3 0)])) ?_ ?_ ?_ ?_
  · intro acc I f1 s2 h1
    exact ⟨none, [], rfl, rfl, rfl, fun i t r e => by simp at e⟩
  · rintro acc j ys σ I I' s' ⟨t, ts, r1, r2, r3, r4⟩
    exact ⟨t, ts, r1, r2, r3, fun i t r e1 e2 => ⟨(r4 i t r e1 e2).1, s' _ _ (r4 i t r e1 e2).2.1, s' _ _ (r4 i t r e1 e2).2.2⟩⟩
  · rintro acc j x ys σ I R1 S1 hj facc s2 hacc hx ⟨t, ts, rfl, rfl, tl, tr⟩ kR kS
    rw [List.getElem?_map] at hx
    obtain ⟨p, ep, rfl⟩ := Option.map_eq_some_iff.mp hx
    obtain ⟨r, er⟩ : ∃ r, rs[j]? = some r := ⟨_, List.getElem?_eq_getElem (by have := (List.getElem?_eq_some_iff.mp ep).1; omega)⟩
    have hp : I p = some (.tup (.str r.1 :: r.2.map V.int)) := s2 _ _ (R.row j p r ep er)
    have fs := filt_succ (p := isF) er
    refine ixT_rd (v := .str r.1) hp (atI_nat (j := 0) rfl) ?_
    refine br_dec (fun hf => ?_) (fun hf => ?_)
    · have l4 : r.2.length = 4 := by
        rcases okr.g r (List.mem_of_getElem? er) with ⟨_, h⟩ | ⟨h, _⟩
        · exact h
        · rw [hf] at h; exact absurd h (by decide +kernel)
      have at1 : ∀ (J : Hp) (i : Nat), i < 4 → atI (V.str r.1 :: r.2.map V.int) ((i + 1 : Nat) : Int) = some (.int (r.2.getD i 0)) := fun _ i hi => atI_nat (getD3 l4 hi)
      refine ixT_rd (v := .int (r.2.getD 0 0)) hp (at1 I 0 (by decide)) ?_
      refine ixT_rd (v := .int (r.2.getD 1 0)) hp (at1 I 1 (by decide)) ?_
      refine ixT_rd (v := .int (r.2.getD 2 0)) hp (at1 I 2 (by decide)) ?_
      refine ixT_rd (v := .int (r.2.getD 3 0)) hp (at1 I 3 (by decide)) ?_
      refine newT_rd (fun p2 I2 g2 t2 h2 => ?_)
      refine newT_rd (fun p3 I3 g3 t3 h3 => ?_)
      have n2 : p2 ≠ acc := Ne.symm (ne_of_none hacc g2)
      have n3 : p3 ≠ acc := Ne.symm (ne_of_none (t2 _ _ hacc) g3)
      walk_at "wh"
      refine kR _ _ _ (t2.trans t3) (fun I4 c4 => ⟨_, ts ++ [(p3, p2)], rfl, by rw [List.map_append]; rfl, ?_, ?_⟩)
      · rw [fs, show isF r = true from decide_eq_true hf, if_pos rfl, List.length_append, List.length_append, tl]; rfl
      · rw [fs, show isF r = true from decide_eq_true hf, if_pos rfl]
        refine snoc_at (R := fun (t : Addr × Addr) (r : Rw) => (t.1 ≠ acc ∧ t.2 ≠ acc) ∧ I4 t.1 = some (.tup [.int (r.2.getD 0 0), .ref t.2]) ∧ I4 t.2 = some (.tup [.int (r.2.getD 1 0), .int (r.2.getD 2 0), .int (r.2.getD 3 0)])) tl (fun i t r e1 e2 => ?_) ⟨⟨n3, n2⟩, c4 _ _ n3 h3, c4 _ _ n2 (t3 _ _ h2)⟩
        obtain ⟨m1, m2, m3⟩ := tr i t r e1 e2
        exact ⟨m1, c4 _ _ m1.1 ((t2.trans t3) _ _ m2), c4 _ _ m1.2 ((t2.trans t3) _ _ m3)⟩
    · walk_at "wh"
      refine kS _ _ (Same.refl _) ⟨_, ts, rfl, rfl, ?_, ?_⟩
      · rw [fs, show isF r = false from decide_eq_false hf, if_neg Bool.false_ne_true, List.append_nil]; exact tl
      · rw [fs, show isF r = false from decide_eq_false hf, if_neg Bool.false_ne_true, List.append_nil]; exact tr
  rintro fl ys σ H2 ffl s2 hfl ⟨t, ts, rfl, rfl, tl, tr⟩
  rw [List.length_map, List.take_of_length_le (by walk_at "om"), eF] at tl tr
  have R2 := R.same s2
  refine iterL_rd R2.out ?_
  refine comp_A (n := (ps.map V.ref).length) (Wk.list (SqL.of R2.out)) (by rw [List.length_map, sizeLine_eq]; omega) (fun acc j ys σ I => ∃ (t : Option V) (us : List Addr), σ = [t] ∧ ys = us.map V.ref ∧ us.length = ((rs.take j).filter isN).length ∧ ∀ (i : Nat) (u : Addr) (r : Rw), us[i]? = some u → ((rs.take j).filter isN)[i]? = some r → u ≠ acc ∧ I u = some (.tup [.int (r.2.getD 0 0), .int (r.2.getD 2 0)])) ?_ ?_ ?_ ?_
  · intro acc I f1 s2 h1
    exact ⟨none, [], rfl, rfl, rfl, fun i t r e => by simp at e⟩
  · rintro acc j ys σ I I' s' ⟨t, ts, r1, r2, r3, r4⟩
    exact ⟨t, ts, r1, r2, r3, fun i t r e1 e2 => ⟨(r4 i t r e1 e2).1, s' _ _ (r4 i t r e1 e2).2⟩⟩
  · rintro acc j x ys σ I R1 S1 hj facc s3 hacc hx ⟨t, us, rfl, rfl, ul, ur⟩ kR kS
    rw [List.getElem?_map] at hx
    obtain ⟨p, ep, rfl⟩ := Option.map_eq_some_iff.mp hx
    obtain ⟨r, er⟩ : ∃ r, rs[j]? = some r := ⟨_, List.getElem?_eq_getElem (by have := (List.getElem?_eq_some_iff.mp ep).1; omega)⟩
    have hp : I p = some (.tup (.str r.1 :: r.2.map V.int)) := s3 _ _ (R2.row j p r ep er)
    have fs := filt_succ (p := isN) er
    have rg := okr.g r (List.mem_of_getElem? er)
    refine ixT_rd (v := .str r.1) hp (atI_nat (j := 0) rfl) ?_
    refine br_dec (fun hf => ?_) (fun hf => ?_)
    · walk_at "wh"
      refine ixT_rd (v := .int (r.2.getD 0 0)) hp (atI_nat (rg.get (i := 0) (by decide))) ?_
      refine ixT_rd (v := .int (r.2.getD 2 0)) hp (atI_nat (rg.get (i := 2) (by decide))) ?_
      refine newT_rd (fun p3 I3 g3 t3 h3 => ?_)
      have n3 : p3 ≠ acc := Ne.symm (ne_of_none hacc g3)
      walk_at "wh"
      refine kR _ _ _ t3 (fun I4 c4 => ⟨_, us ++ [p3], rfl, by rw [List.map_append]; rfl, ?_, ?_⟩)
      · rw [fs, show isN r = true from decide_eq_true hf, if_pos rfl, List.length_append, List.length_append, ul]; rfl
      · rw [fs, show isN r = true from decide_eq_true hf, if_pos rfl]
        refine snoc_at (R := fun (u : Addr) (r : Rw) => u ≠ acc ∧ I4 u = some (.tup [.int (r.2.getD 0 0), .int (r.2.getD 2 0)])) ul (fun i t r e1 e2 => ?_) ⟨n3, c4 _ _ n3 h3⟩
        obtain ⟨m1, m2⟩ := ur i t r e1 e2
        exact ⟨m1, c4 _ _ m1 (t3 _ _ m2)⟩
    · walk_at "wh"
      refine kS _ _ (Same.refl _) ⟨_, us, rfl, rfl, ?_, ?_⟩
      · rw [fs, show isN r = false from decide_eq_false hf, if_neg Bool.false_ne_true, List.append_nil]; exact ul
      · rw [fs, show isN r = false from decide_eq_false hf, if_neg Bool.false_ne_true, List.append_nil]; exact ur
  rintro nu ys σ H3 fnu s3 hnu ⟨t, us, rfl, rfl, ul, ur⟩
  rw [List.length_map, List.take_of_length_le (by walk_at "om"), eN] at ul ur
  have hfl3 := s3 _ _ hfl
  have fl1 : 1 ≤ (flowsR 0 xss).length := by
    have := B.fl.1
    cases e : xss with
    | nil => rw [e] at this; exact absurd this (by decide)
    | cons xs r =>
      have := (B.rl xs (by rw [e]; exact List.mem_cons_self)).1
      show 1 ≤ (xs.map (flR 0) ++ flowsR 1 r).length
      rw [List.length_append, List.length_map]; omega
  have nl1 : 1 ≤ (numsR 0 nss).length := by
    have := B.tl.1
    cases e : nss with
    | nil => rw [e] at this; exact absurd this (by decide)
    | cons xs r =>
      have := (B.nl xs (by rw [e]; exact List.mem_cons_self)).1
      show 1 ≤ (numR 0 0 xs ++ numsR 1 r).length
      rw [List.length_append, numR_len]; omega
  have flm : (flowsR 0 xss).length ≤ 400 := by rw [← eF]; exact Nat.le_trans (List.length_filter_le _ _) okl
  have nlm : (numsR 0 nss).length ≤ 400 := by rw [← eN]; exact Nat.le_trans (List.length_filter_le _ _) okl
  refine lenL_rd hfl3 ?_
  rw [List.length_map, tl]
  refine br_dF (by walk_at "om") ?_
  refine lenL_rd hnu ?_
  rw [List.length_map, ul]
  refine br_dF (by walk_at "om") ?_
  have nx : ∀ bs ∈ cutA xss (ts.map (·.2)), (bs.map V.ref) ≠ [] := fun bs hb z => by
    obtain ⟨j, ej⟩ := List.getElem?_of_mem hb
    have hj := (List.getElem?_eq_some_iff.mp ej).1
    rw [cutA_len] at hj
    obtain ⟨l1, _⟩ := cutA_at (H := H3) xss 0 (ts.map (·.2)) (by rw [List.length_map]; exact tl) (fun i a r ea er => by
      rw [List.getElem?_map] at ea
      obtain ⟨t, et, rfl⟩ := Option.map_eq_some_iff.mp ea
      exact s3 _ _ (tr i t r et er).2.2) j bs xss[j] ej (List.getElem?_eq_getElem hj)
    have b1 := (B.rl xss[j] (List.getElem_mem _)).1
    have b2 := congrArg List.length z
    rw [List.length_map, List.length_nil] at b2
    omega
  have gx : ∀ g ∈ (cutA xss (ts.map (·.2))).map (fun bs => bs.map V.ref), g ≠ [] := fun g hg => by
    obtain ⟨bs, hb, rfl⟩ := List.mem_map.mp hg
    exact nx bs hb
  have gn : ∀ g ∈ nss.map (fun ns => ns.map V.int), g ≠ [] := fun g hg z => by
    obtain ⟨ns, hn, rfl⟩ := List.mem_map.mp hg
    have b1 := (B.nl ns hn).1
    have b2 := congrArg List.length z
    rw [List.length_map, List.length_nil] at b2
    omega
  have e1 := cutA_grp xss 0 (ts.map (·.2)) (by rw [List.length_map]; exact tl)
  have e2 := nums_grp nss 0
  have f1 := fold_all ((cutA xss (ts.map (·.2))).map fun bs => bs.map V.ref) [] gx
  have f2 := fold_all (nss.map fun ns => ns.map V.int) [] gn
  have o1 := grp_le ((cutA xss (ts.map (·.2))).map fun bs => bs.map V.ref) [] gx
  have o2 := grp_le (nss.map fun ns => ns.map V.int) [] gn
  rw [show ([] : List (List V)).length = 0 from rfl] at f1 f2 o1 o2
  rw [List.nil_append] at f1 f2
  rw [← e1] at f1 o1
  rw [← e2] at f2 o2
  refine by_fields_rd (ts := ts.map (·.1)) (sq := ((flowsR 0 xss).zip (ts.map (·.2))).map fun x => ((x.1.2.getD 0 0).toNat, V.ref x.2)) (by rw [hfl3, List.map_map]; rfl) (by rw [List.length_map, List.length_map, List.length_zip, List.length_map, tl, Nat.min_self]) (fun i a x ea ex => ?_) (by rw [List.length_map, List.length_zip, List.length_map]; omega) o1 (fun L1 q1 H4 s4 N1 => ?_)
  · rw [List.getElem?_map] at ea ex
    obtain ⟨t, et, rfl⟩ := Option.map_eq_some_iff.mp ea
    obtain ⟨z, ez, rfl⟩ := Option.map_eq_some_iff.mp ex
    obtain ⟨z1, z2⟩ := List.getElem?_zip_eq_some.mp ez
    rw [List.getElem?_map, et] at z2
    have z2 : some t.2 = some z.2 := z2
    obtain ⟨k, ek⟩ := natF z.1 (List.mem_of_getElem? z1)
    have := s3 _ _ (tr i t z.1 et z1).2.1
    rw [Option.some.inj z2] at this
    show H3 t.1 = some (.tup [.int (((z.1.2.getD 0 0).toNat : Nat) : Int), .ref z.2])
    rw [this, ek, Int.toNat_natCast]
  rw [f1] at N1
  have N1a := N1
  refine by_fields_rd (ts := us) (sq := (numsR 0 nss).map fun r => ((r.2.getD 0 0).toNat, V.int (r.2.getD 2 0))) (s4 _ _ hnu) (by rw [List.length_map]; exact ul) (fun i a x ea ex => ?_) (by rw [List.length_map]; omega) o2 (fun L2 q2 H5 s5 N2 => ?_)
  · rw [List.getElem?_map] at ex
    obtain ⟨r, er, rfl⟩ := Option.map_eq_some_iff.mp ex
    obtain ⟨k, ek⟩ := natN r (List.mem_of_getElem? er)
    have := s4 _ _ (ur i a r ea er).2
    show H4 a = some (.tup [.int (((r.2.getD 0 0).toNat : Nat) : Int), .int (r.2.getD 2 0)])
    rw [this, ek, Int.toNat_natCast]
  rw [f2] at N2
  have N1 := N1.same s5
  refine newT_rd (fun p H6 g6 s6 h6 => ?_)
  walk_at "wh"
  have N1 := N1.same s6
  have N2 := N2.same s6
  have s03 := (s1.trans s2).trans s3
  have s36 := (s4.trans s5).trans s6
  have cl := cutA_len xss (ts.map (·.2))
  have q1l := N1.len
  have q2l := N2.len
  rw [List.length_map] at q1l q2l
  have at_ := cutA_at (H := H6) xss 0 (ts.map (·.2)) (by rw [List.length_map]; exact tl) (fun i a r ea er => by
    rw [List.getElem?_map] at ea
    obtain ⟨t, et, rfl⟩ := Option.map_eq_some_iff.mp ea
    exact (s3.trans s36) _ _ (tr i t r et er).2.2)
  have zf : (q1.zip (cutA xss (ts.map (·.2)))).map (·.1) = q1 := by
    rw [List.map_fst_zip]
    omega
  have old : ∀ {J0 J : Hp} {L : Addr} {qs : List Addr} {acc : List (List V)}, LsN J0 J L qs acc → ∀ a ∈ L :: qs, J0 a = none ∧ ∃ o, J a = some o := fun {J0 J L qs acc} N a ha => by
    rcases List.mem_cons.mp ha with rfl | ha
    · exact ⟨N.fr, _, N.out⟩
    · obtain ⟨i, ei⟩ := List.getElem?_of_mem ha
      obtain ⟨z, ez⟩ : ∃ z, acc[i]? = some z := ⟨_, List.getElem?_eq_getElem (by have := N.len; have := (List.getElem?_eq_some_iff.mp ei).1; omega)⟩
      obtain ⟨r1, r2⟩ := N.row i a z ei ez
      exact ⟨r1, _, r2⟩
  refine q p L1 L2 (q1.zip (cutA xss (ts.map (·.2)))) q2 H6 (s03.trans s36) ⟨⟨h6, ⟨?_, ?_, ?_⟩, ⟨N2.out, by rw [q2l], ?_⟩⟩, ?_, ?_⟩
  · rw [N1.out]
    conv => lhs; rw [← zf]
    rw [List.map_map]
    rfl
  · rw [List.length_zip]; omega
  · intro i r xs er ex
    obtain ⟨z1, z2⟩ := List.getElem?_zip_eq_some.mp er
    obtain ⟨w1, w2⟩ := at_ i r.2 xs z2 ex
    exact ⟨(N1.row i r.1 (r.2.map V.ref) z1 (by rw [List.getElem?_map, z2]; rfl)).2, w1, w2⟩
  · intro i a ns ea en
    exact (N2.row i a (ns.map V.int) ea (by rw [List.getElem?_map, en]; rfl)).2
  · rw [zf, List.nodup_append]
    refine ⟨N1.nd, N2.nd, fun a ha b hb z => ?_⟩
    subst z
    obtain ⟨o, ho⟩ := (old N1a a ha).2
    rw [(old N2 a hb).1] at ho
    cases ho
  · rw [zf]
    intro a ha
    rcases List.mem_append.mp ha with ha | ha
    · exact s03.free (old N1 a ha).1
    · exact (s03.trans s4).free (old N2 a ha).1
-- @@split
/-! ### marks, all the way down -/
inductive MkV (H : Hp) : Nat → V → List Addr → Prop
  | flat {n : Nat} {v : V} (f : flatV v = true) (k : isT "mark" v = false) : MkV H n v []
  | tup {n : Nat} {p : Addr} {xs : List V} {Bs : List (List Addr)} (h : H p = some (.tup xs)) (z : xs.length ≤ 1000) (l : Bs.length = xs.length) (e : ∀ (i : Nat) x B, xs[i]? = some x → Bs[i]? = some B → MkV H n x B) : MkV H (n + 1) (.ref p) Bs.flatten
  | lst {n : Nat} {p : Addr} {xs : List V} {Bs : List (List Addr)} (h : H p = some (.lst xs)) (z : xs.length ≤ 1000) (l : Bs.length = xs.length) (e : ∀ (i : Nat) x B, xs[i]? = some x → Bs[i]? = some B → MkV H n x B) : MkV H (n + 1) (.ref p) (p :: Bs.flatten)
theorem flat_mem {Bs : List (List Addr)} {a : Addr} (h : a ∈ Bs.flatten) : ∃ (i : Nat) (B : List Addr), Bs[i]? = some B ∧ a ∈ B := by
  obtain ⟨B, hB, ha⟩ := List.mem_flatten.mp h
  obtain ⟨i, hi, e⟩ := List.mem_iff_getElem.mp hB
  exact ⟨i, B, by rw [List.getElem?_eq_getElem hi, e], ha⟩
theorem mem_flat {Bs : List (List Addr)} {a : Addr} {i : Nat} {B : List Addr} (h : Bs[i]? = some B) (ha : a ∈ B) : a ∈ Bs.flatten := List.mem_flatten.mpr ⟨B, List.mem_of_getElem? h, ha⟩
theorem bs_at {Bs : List (List Addr)} {n i : Nat} (l : Bs.length = n) (h : i < n) : ∃ B, Bs[i]? = some B := ⟨_, List.getElem?_eq_getElem (by walk_at "om")⟩
theorem xs_at {xs : List V} {n i : Nat} {B : List Addr} {Bs : List (List Addr)} (l : Bs.length = xs.length) (h : Bs[i]? = some B) : ∃ x, xs[i]? = some x := ⟨_, List.getElem?_eq_getElem (by have := (List.getElem?_eq_some_iff.mp h).1; omega)⟩
theorem MkV.isl {H : Hp} {n : Nat} {v : V} {As : List Addr} (m : MkV H n v As) : ∀ a ∈ As, ∃ ys, H a = some (.lst ys) := by
  induction m with
  | flat _ _ => intro a h; cases h
  | tup h z l e ih =>
    intro a ha
    obtain ⟨i, B, e1, e2⟩ := flat_mem ha
    obtain ⟨x, ex⟩ := xs_at (n := 0) l e1
    exact ih i x B ex e1 a e2
  | @lst n p xs Bs h z l e ih =>
    intro a ha
    rcases List.mem_cons.mp ha with rfl | ha
    · exact ⟨_, h⟩
    · obtain ⟨i, B, e1, e2⟩ := flat_mem ha
      obtain ⟨x, ex⟩ := xs_at (n := 0) l e1
      exact ih i x B ex e1 a e2
theorem MkV.chgS {H H' : Hp} {L : List Addr} (hL : ∀ a ∈ L, ∃ ys, H a = some (.lst ys)) (c : ChgS L H H') {n : Nat} {v : V} {As : List Addr} (m : MkV H n v As) : (∀ a ∈ As, a ∉ L) → MkV H' n v As := by
  induction m with
  | flat f k => intro _; exact .flat f k
  | tup h z l e ih =>
    intro hn
    refine .tup (c _ _ (fun hm => by obtain ⟨ys, q⟩ := hL _ hm; rw [h] at q; cases q) h) z l fun i x B e1 e2 => ih i x B e1 e2 fun a ha => hn a (mem_flat e2 ha)
  | lst h z l e ih =>
    intro hn
    exact .lst (c _ _ (hn _ List.mem_cons_self) h) z l fun i x B e1 e2 => ih i x B e1 e2 fun a ha => hn a (List.mem_cons_of_mem _ (mem_flat e2 ha))
theorem MkV.same {H H' : Hp} {n : Nat} {v : V} {As : List Addr} (m : MkV H n v As) (s : Same H H') : MkV H' n v As := m.chgS (L := []) (fun _ h => by cases h) (fun b o _ e => s b o e) fun _ _ h => by cases h
/-- the lists at As have a mark behind, all else is as it was -/
noncomputable def Mkd (H H' : Hp) (As : List Addr) : Prop := ChgS As H H' ∧ ∀ a ∈ As, ∀ xs, H a = some (.lst xs) → H' a = some (.lst (xs ++ [.str "mark"]))
theorem Mkd.same {H H' H'' : Hp} {As : List Addr} (m : Mkd H H' As) (s : Same H' H'') : Mkd H H'' As := ⟨m.1.same s, fun a ha xs h => s _ _ (m.2 a ha xs h)⟩
theorem take_flat {Bs : List (List Addr)} {i : Nat} {B : List Addr} (h : Bs[i]? = some B) : (Bs.take (i + 1)).flatten = (Bs.take i).flatten ++ B := by
  rw [List.take_succ, h]; simp
theorem nd_split {Bs : List (List Addr)} {i : Nat} {B : List Addr} (h : Bs[i]? = some B) (nd : Bs.flatten.Nodup) : B.Nodup ∧ ∀ a ∈ B, a ∉ (Bs.take i).flatten := by
  have e : Bs.flatten = (Bs.take (i + 1)).flatten ++ (Bs.drop (i + 1)).flatten := by rw [← List.flatten_append, List.take_append_drop]
  rw [e, take_flat h] at nd
  have n1 := (List.nodup_append.mp nd).1
  have n2 := List.nodup_append.mp n1
  exact ⟨n2.2.1, fun a ha hb => n2.2.2 a hb a ha rfl⟩
theorem Mkd.push {H H1 H2 : Hp} {Bs : List (List Addr)} {i : Nat} {B : List Addr} (h : Bs[i]? = some B) (hd : ∀ a ∈ B, a ∉ (Bs.take i).flatten) (m : Mkd H H1 (Bs.take i).flatten) (m2 : Mkd H1 H2 B) : Mkd H H2 (Bs.take (i + 1)).flatten := by
  rw [take_flat h]
  refine ⟨fun b o hb e => m2.1 b o (fun z => hb (List.mem_append_right _ z)) (m.1 b o (fun z => hb (List.mem_append_left _ z)) e), fun a ha xs hx => ?_⟩
  rcases List.mem_append.mp ha with ha | ha
  · exact m2.1 a _ (fun z => hd a z ha) (m.2 a ha xs hx)
  · exact m2.2 a ha xs (m.1 a _ (hd a ha) hx)
theorem listT_rd {K : PySem.W.Frag} {p : Addr} {H : Hp} {Q : VK} {ys : List V} (h : H p = some (.tup ys)) (q : ∀ l H', H l = none → Same H H' → H' l = some (.lst ys) → Q (.ref l) H') : rListA K p H Q := by unfold rListA; exact ⟨ys, .inr (SqT.of h), q⟩
noncomputable def sp_markN : Nat → Sp
  | 0 => fun _ _ _ _ => False
  | n + 1 => fun vs H Q _ => ∃ (p : Addr) (As : List Addr), vs = [.ref p] ∧ MkV H n (.ref p) As ∧ As.Nodup ∧ ∀ H', Mkd H H' As → Q .non H'
@[irreducible] noncomputable def sp__law_marked : Sp := sp_markN 6
theorem marked_rd {H : Hp} {p : Addr} {As : List Addr} {Q : VK} {E : XK} (m : MkV H 5 (.ref p) As) (nd : As.Nodup) (q : ∀ H', Mkd H H' As → Q .non H') : sp__law_marked [.ref p] H Q E := by unfold sp__law_marked; exact ⟨p, As, rfl, m, nd, q⟩
theorem MkV.cases {H : Hp} {n : Nat} {v : V} {As : List Addr} (m : MkV H n v As) : (flatV v = true ∧ isT "mark" v = false ∧ As = []) ∨ ∃ (n' : Nat) (p : Addr) (xs : List V) (Bs : List (List Addr)), n = n' + 1 ∧ v = .ref p ∧ xs.length ≤ 1000 ∧ Bs.length = xs.length ∧ (∀ (i : Nat) x B, xs[i]? = some x → Bs[i]? = some B → MkV H n' x B) ∧ ((H p = some (.tup xs) ∧ As = Bs.flatten) ∨ (H p = some (.lst xs) ∧ As = p :: Bs.flatten)) := by
  cases m with
  | flat f k => exact .inl ⟨f, k, rfl⟩
  | tup h z l e => exact .inr ⟨_, _, _, _, rfl, rfl, z, l, e, .inl ⟨h, rfl⟩⟩
  | lst h z l e => exact .inr ⟨_, _, _, _, rfl, rfl, z, l, e, .inr ⟨h, rfl⟩⟩
theorem isiT_any {K : PySem.W.Frag} {H : Hp} {Q : VK} {n : Nat} {v : V} {As : List Addr} {t : Addr} (ht : H t = some (.tup [.ty "list", .ty "tuple"])) (m : MkV H n v As) (h1 : flatV v = true → As = [] → Q (.bl false) H) (h2 : ∀ p, v = .ref p → Q (.bl true) H) : rIsiT K v (.ref t) H Q := by
  have ht : H t = some (.tup (["list", "tuple"].map V.ty)) := ht
  rcases m.cases with ⟨f, k, e⟩ | ⟨n', p, xs, Bs, rfl, rfl, z, l, e, ⟨h, _⟩ | ⟨h, _⟩⟩
  · cases v with
    | non => exact isiTN_rd ht (h1 f e)
    | bl b => exact isiTB_rd ht (h1 f e)
    | int i => exact isiTI_rd ht (h1 f e)
    | str x => exact isiTS_rd ht (h1 f e)
    | _ => exact absurd (show false = true from f) Bool.false_ne_true
  · exact isiTT_rd ht h (h2 p rfl)
  · exact isiTL_rd ht h (h2 p rfl)
set_option maxHeartbeats 0 in
theorem ok__law_marked {f : Addr} {fd : FuncData} (F : Fun K "_law_marked" "_law_marked" s__law_marked f fd) (N : Nm mg) (hgR : mg "_law_marked" = some (.ref f)) (hkR : PySem.W.keepIn K (.ref f) = true) (hbR : Binds K fd ["_law_thing"] []) : FnOk P w K mg base CX0 7 f fd ["_law_thing"] sp__law_marked := by
  have key : ∀ n, FnOk P w K mg base CX0 (n + 1) f fd ["_law_thing"] (sp_markN n) := by
    intro n
    induction n with
    | zero => exact F.ok sc__law_marked (fun vs H Q E h => h.elim) (fun cdv A outer s H vs Q E hr h => h.elim)
    | succ n ih =>
      have D__law_marked : Def P w K mg base CX0 (n + 1) "_law_marked" ["_law_thing"] (sp_markN n) := ⟨f, fd, ih, hgR, hkR, hbR⟩
      refine F.ok sc__law_marked (fun vs H Q E h => by obtain ⟨_, _, rfl, _⟩ := h; rfl) (fun cdv A outer s H vs Q E hr h => ?_)
      obtain ⟨p, As, rfl, m, nd, q⟩ := h
      refine ⟨_, (pss_cons (psFor PassesOwn.never rfl (piSeqK (K := K) rfl (pT (cListK (K := K) rfl) N.list_ bt_list (pa_cons (pq 0) pa_nil))) (pg_name (i := 1) sc__law_marked.nd rfl (by first | exact Or.inl rfl | exact Or.inr rfl)) (pss_one (psIf (ptV (pB (cIsiT (K := K) rfl) N.isinstance_ bt_isinstance (pa_cons (pq 1) (pa_cons (peTup (pa_cons (pTy N.list_ bt_list) (pa_cons (pTy N.tuple_ bt_tuple) pa_nil))) pa_nil)))) (pss_one (ps_expr (pD D__law_marked hr pass0 (pa_cons (pq 1) pa_nil) (hk := by walk_at "om")))) pss_nil)))
      (pss_one (psIf (ptV (pB (cIsiK (K := K) rfl) N.isinstance_ bt_isinstance (pa_cons (pq 0) (pa_cons (pTy N.list_ bt_list) pa_nil)))) (pss_one (ps_expr (peM_append (pq 0) (pa_cons pe_str pa_nil)))) pss_nil))), ?_⟩
      rcases m.cases with ⟨f, _, _⟩ | ⟨n', p', xs, Bs, rfl, ep, z, l, e, hc⟩
      · exact absurd (show false = true from f) Bool.false_ne_true
      cases ep
      have nf : Bs.flatten.Nodup := by
        rcases hc with ⟨_, rfl⟩ | ⟨_, rfl⟩
        · exact nd
        · exact (List.nodup_cons.mp nd).2
      have isl : ∀ (i : Nat) B, Bs[i]? = some B → ∀ a ∈ B, ∃ ys, H a = some (.lst ys) := fun i B hB => by
        obtain ⟨x, ex⟩ := xs_at (n := 0) l hB
        exact (e i x B ex hB).isl
      have isl2 : ∀ i, ∀ a ∈ (Bs.take i).flatten, ∃ ys, H a = some (.lst ys) := fun i a ha => by
        obtain ⟨B, hB, hm⟩ := List.mem_flatten.mp ha
        obtain ⟨j, hj, ej⟩ := List.mem_iff_getElem.mp (List.mem_of_mem_take hB)
        exact isl j B (by rw [List.getElem?_eq_getElem hj, ej]) a hm
      have hm : ∀ (R : VK), (∀ l' H', H l' = none → Same H H' → H' l' = some (.lst xs) → R (.ref l') H') → rListA K p H R := fun R r => by
        rcases hc with ⟨h, _⟩ | ⟨h, _⟩
        · exact listT_rd h r
        · exact listL_rd (SqL.of h) r
      walk_at "wh"
      refine hm _ (fun q1 H1 f1 s1 h1 => ?_)
      refine iterL_rd h1 ?_
      have nq : ∀ i, q1 ∉ (Bs.take i).flatten := fun i hi => by obtain ⟨ys, z⟩ := isl2 i q1 hi; rw [f1] at z; cases z
      refine loop_list (xs := xs) (fun i σ H2 => ∃ t : Option V, σ = [some (.ref p), t] ∧ Mkd H H2 (Bs.take i).flatten ∧ H2 q1 = some (.lst xs)) ?_ ?_ ?_ ?_
      · exact ⟨_, rfl, ⟨fun b o _ h => s1 b o h, fun a ha => by simp at ha⟩, h1⟩
      · rintro i σ H2 _ ⟨_, _, _, h⟩
        exact SqL.of h
      · rintro i x σ H2 hx ⟨t, rfl, m2, h2⟩
        have hi := (List.getElem?_eq_some_iff.mp hx).1
        obtain ⟨B, hB⟩ := bs_at l hi
        have nb := nd_split hB nf
        have mx := (e i x B hx hB).chgS (isl2 i) m2.1 nb.2
        refine newT_rd (fun t1 H3 f3 s3 h3 => ?_)
        walk_at "wh"
        refine isiT_any h3 (mx.same s3) (fun fx eB => ?_) (fun p1 ep => ?_)
        · subst eB
          refine br_F ?_
          walk_at "wh"
          refine ⟨_, rfl, (Mkd.push hB nb.2 m2 ⟨fun b o _ h => h, fun a ha => by cases ha⟩).same s3, s3 _ _ h2⟩
        · subst ep
          refine br_T ?_
          walk_at "wh"
          obtain ⟨n'', rfl⟩ : ∃ n'', n' = n'' + 1 := by
            rcases mx.cases with ⟨f, _, _⟩ | ⟨n'', _, _, _, rfl, _⟩
            · exact absurd (show false = true from f) Bool.false_ne_true
            · exact ⟨_, rfl⟩
          refine ⟨p1, B, rfl, mx.same s3, nb.1, fun H4 m4 => ?_⟩
          walk_at "wh"
          refine ⟨_, rfl, Mkd.push hB nb.2 (m2.same s3) m4, m4.1 _ _ (fun hq => ?_) (s3 _ _ h2)⟩
          obtain ⟨ys, zz⟩ := isl i B hB q1 hq
          rw [f1] at zz
          cases zz
      · rintro σ H2 ⟨t, rfl, m2, h2⟩
        have eT : Bs.take xs.length = Bs := by rw [← l, List.take_length]
        rw [eT] at m2
        walk_at "wh"
        rcases hc with ⟨h, rfl⟩ | ⟨h, rfl⟩
        · have hp := m2.1 _ _ (fun hm => by obtain ⟨i, B, e1, e2⟩ := flat_mem hm; obtain ⟨ys, z⟩ := isl i B e1 _ e2; rw [h] at z; cases z) h
          refine isiT_rd hp ?_
          refine br_F ?_
          walk_at "wh"
          exact q _ m2
        · have np := (List.nodup_cons.mp nd).1
          have hp := m2.1 _ _ np h
          refine isiL_rd hp ?_
          refine br_T ?_
          refine lst_is hp ?_
          refine app_rd hp (by rw [sizeLine_eq]; omega) (fun H3 c3 h3 => ?_)
          walk_at "wh"
          refine q _ ⟨fun b o hb h => c3 b o (fun z => hb (z ▸ List.mem_cons_self)) (m2.1 b o (fun z => hb (List.mem_cons_of_mem _ z)) h), fun a ha ys hy => ?_⟩
          rcases List.mem_cons.mp ha with rfl | ha
          · rw [h] at hy
            cases hy
            exact h3
          · exact c3 _ _ (fun z => np (z ▸ ha)) (m2.2 a ha ys hy)
  unfold sp__law_marked
  exact key 6
inductive OnV (H : Hp) : Nat → V → Prop
  | flat {n : Nat} {v : V} (f : flatV v = true) : OnV H n v
  | tup {n : Nat} {p : Addr} {xs : List V} (h : H p = some (.tup xs)) (z : xs.length ≤ 1000) (e : ∀ (i : Nat) x, xs[i]? = some x → OnV H n x) : OnV H (n + 1) (.ref p)
  | lst {n : Nat} {p : Addr} {xs : List V} (h : H p = some (.lst (xs ++ [.str "mark"]))) (z : xs.length ≤ 1000) (c : xs.countP (isT "mark") = 0) (e : ∀ (i : Nat) x, xs[i]? = some x → OnV H n x) : OnV H (n + 1) (.ref p)
theorem cnt_none {H : Hp} {n : Nat} : ∀ {xs : List V} {Bs : List (List Addr)}, Bs.length = xs.length → (∀ (i : Nat) x B, xs[i]? = some x → Bs[i]? = some B → MkV H n x B) → xs.countP (isT "mark") = 0
  | [], _, _, _ => rfl
  | x :: xs, [], l, _ => by cases l
  | x :: xs, B :: Bs, l, e => by
    have h0 : isT "mark" x = false := by
      rcases (e 0 x B rfl rfl).cases with ⟨_, k, _⟩ | ⟨_, p, _, _, _, rfl, _⟩
      · exact k
      · rfl
    rw [List.countP_cons, h0, cnt_none (by simpa using l) fun i x B h1 h2 => e (i + 1) x B h1 h2]
    rfl
theorem MkV.on {H0 H : Hp} {L : List Addr} (d : Mkd H0 H L) (hL : ∀ a ∈ L, ∃ ys, H0 a = some (.lst ys)) {n : Nat} {v : V} {As : List Addr} (m : MkV H0 n v As) : (∀ a ∈ As, a ∈ L) → OnV H n v := by
  induction m with
  | flat f _ => intro _; exact .flat f
  | tup h z l e ih =>
    intro hs
    refine .tup (d.1 _ _ (fun hm => by obtain ⟨ys, q⟩ := hL _ hm; rw [h] at q; cases q) h) z fun i x hx => ?_
    obtain ⟨B, hB⟩ := bs_at l (List.getElem?_eq_some_iff.mp hx).1
    exact ih i x B hx hB fun a ha => hs a (mem_flat hB ha)
  | lst h z l e ih =>
    intro hs
    refine .lst (d.2 _ (hs _ List.mem_cons_self) _ h) z (cnt_none l e) fun i x hx => ?_
    obtain ⟨B, hB⟩ := bs_at l (List.getElem?_eq_some_iff.mp hx).1
    exact ih i x B hx hB fun a ha => hs a (List.mem_cons_of_mem _ (mem_flat hB ha))
theorem OnV.same {H H' : Hp} (s : Same H H') {n : Nat} {v : V} (m : OnV H n v) : OnV H' n v := by
  induction m with
  | flat f => exact .flat f
  | tup h z e ih => exact .tup (s _ _ h) z ih
  | lst h z c e ih => exact .lst (s _ _ h) z c ih
theorem OnV.plain {H : Hp} {n : Nat} {v : V} (m : OnV H n v) : Plain H v := by
  cases m with
  | flat f => exact .inl f
  | tup h _ _ => exact .inr ⟨_, rfl, .inr ⟨_, h⟩⟩
  | lst h _ _ _ => exact .inr ⟨_, rfl, .inl ⟨_, h⟩⟩
theorem isiT_on {K : PySem.W.Frag} {H : Hp} {Q : VK} {v : V} {t : Addr} (ht : H t = some (.tup [.ty "list", .ty "tuple"])) (m : Plain H v) (h1 : flatV v = true → Q (.bl false) H) (h2 : ∀ p, v = .ref p → Q (.bl true) H) : rIsiT K v (.ref t) H Q := by
  have ht : H t = some (.tup (["list", "tuple"].map V.ty)) := ht
  rcases m with f | ⟨a, rfl, ⟨ys, h⟩ | ⟨ys, h⟩⟩
  · cases v with
    | non => exact isiTN_rd ht (h1 f)
    | bl b => exact isiTB_rd ht (h1 f)
    | int i => exact isiTI_rd ht (h1 f)
    | str x => exact isiTS_rd ht (h1 f)
    | _ => exact absurd (show false = true from f) Bool.false_ne_true
  · exact isiTL_rd ht h (h2 a rfl)
  · exact isiTT_rd ht h (h2 a rfl)
noncomputable def sp_onceN : Nat → Sp
  | 0 => fun _ _ _ _ => False
  | n + 1 => fun vs H Q _ => ∃ p : Addr, vs = [.ref p] ∧ OnV H n (.ref p) ∧ ∀ H', Same H H' → Q (.bl true) H'
@[irreducible] noncomputable def sp__law_once : Sp := sp_onceN 6
theorem once_rd {H0 H : Hp} {p : Addr} {As : List Addr} {Q : VK} {E : XK} (m : MkV H0 5 (.ref p) As) (d : Mkd H0 H As) (q : ∀ H', Same H H' → Q (.bl true) H') : sp__law_once [.ref p] H Q E := by unfold sp__law_once; exact ⟨p, rfl, m.on d m.isl fun _ h => h, q⟩
set_option maxHeartbeats 0 in
theorem ok__law_once {f : Addr} {fd : FuncData} (F : Fun K "_law_once" "_law_once" s__law_once f fd) (N : Nm mg) (hgR : mg "_law_once" = some (.ref f)) (hkR : PySem.W.keepIn K (.ref f) = true) (hbR : Binds K fd ["_law_thing"] []) : FnOk P w K mg base CX0 7 f fd ["_law_thing"] sp__law_once := by
  have key : ∀ n, FnOk P w K mg base CX0 (n + 1) f fd ["_law_thing"] (sp_onceN n) := by
    intro n
    induction n with
    | zero => exact F.ok sc__law_once (fun vs H Q E h => h.elim) (fun cdv A outer s H vs Q E hr h => h.elim)
    | succ n ih =>
      have D__law_once : Def P w K mg base CX0 (n + 1) "_law_once" ["_law_thing"] (sp_onceN n) := ⟨f, fd, ih, hgR, hkR, hbR⟩
      refine F.ok sc__law_once (fun vs H Q E h => by obtain ⟨_, rfl, _⟩ := h; rfl) (fun cdv A outer s H vs Q E hr h => ?_)
      obtain ⟨p, rfl, m, q⟩ := h
      have hu := hu40 hr
      refine ⟨_, (pss_cons (psIf (ptW (pwAnd (ptV (pB (cIsiK (K := K) rfl) N.isinstance_ bt_isinstance (pa_cons (pq 0) (pa_cons (pTy N.list_ bt_list) pa_nil)))) (pw_and1 (ptC (oNeK (K := K) rfl (by exact hu)) (peM_countT (K := K) rfl (by exact hu) (pq 0) (pa_cons pe_str pa_nil)) pe_int)))) (pss_one (ps_ret pe_bl)) pss_nil)
      (pss_cons (psFor PassesOwn.never rfl (piSeqK (K := K) rfl (pq 0)) (pg_name (i := 1) sc__law_once.nd rfl (by first | exact Or.inl rfl | exact Or.inr rfl)) (pss_one (psIf (ptW (pwAnd (ptV (pB (cIsiT (K := K) rfl) N.isinstance_ bt_isinstance (pa_cons (pq 1) (pa_cons (peTup (pa_cons (pTy N.list_ bt_list) (pa_cons (pTy N.tuple_ bt_tuple) pa_nil))) pa_nil)))) (pw_and1 (pt_not (ptV (pD D__law_once hr pass0 (pa_cons (pq 1) pa_nil) (hk := by walk_at "om"))))))) (pss_one (ps_ret pe_bl)) pss_nil)))
      (pss_one (ps_ret pe_bl)))), ?_⟩
      cases m with
      | flat f => exact absurd (show false = true from f) Bool.false_ne_true
      | @tup n' _ xs h z e =>
        refine isiT_rd h ?_
        refine br_F ?_
        refine br_F ?_
        refine iterT_rd h ?_
        refine loop_tup (xs := xs) (fun i σ H2 => ∃ t : Option V, σ = [some (.ref p), t] ∧ Same H H2) ?_ ?_ ?_ ?_
        · exact ⟨_, rfl, Same.refl _⟩
        · rintro i σ H2 _ ⟨_, _, s2⟩
          exact SqT.of (s2 _ _ h)
        · rintro i x σ H2 hx ⟨t, rfl, s2⟩
          have o := (e i x hx).same s2
          refine newT_rd (fun t1 H3 f3 s3 h3 => ?_)
          walk_at "wh"
          refine isiT_on h3 (o.same s3).plain (fun fx => ?_) (fun p1 ep => ?_)
          · walk_at "wh"
            refine br_F ?_
            refine br_F ?_
            walk_at "wh"
            exact ⟨_, rfl, s2.trans s3⟩
          · walk_at "wh"
            refine br_T ?_
            walk_at "wh"
            subst ep
            refine ⟨p1, rfl, o.same s3, fun H4 s4 => ?_⟩
            refine br_not (br_T ?_)
            walk_at "wh"
            exact ⟨_, rfl, (s2.trans s3).trans s4⟩
        · rintro σ H2 ⟨t, rfl, s2⟩
          walk_at "wh"
          exact q _ s2
      | @lst n' _ xs h z c e =>
        refine isiL_rd h ?_
        refine br_T ?_
        refine lst_is h ?_
        refine cntT_rd h (fun x hx => ?_) ?_
        · rcases List.mem_append.mp hx with hx | hx
          · obtain ⟨i, hi, ei⟩ := List.mem_iff_getElem.mp hx
            exact (e i x (by rw [List.getElem?_eq_getElem hi, ei])).plain
          · rw [List.mem_singleton.mp hx]; exact .inl rfl
        rw [List.countP_append, c]
        refine br_not (br_dT rfl ?_)
        refine iterL_rd h ?_
        refine loop_list (xs := xs ++ [.str "mark"]) (fun i σ H2 => ∃ t : Option V, σ = [some (.ref p), t] ∧ Same H H2) ?_ ?_ ?_ ?_
        · exact ⟨_, rfl, Same.refl _⟩
        · rintro i σ H2 _ ⟨_, _, s2⟩
          exact SqL.of (s2 _ _ h)
        · rintro i x σ H2 hx ⟨t, rfl, s2⟩
          have o : OnV H2 n' x := by
            by_cases hi : i < xs.length
            · rw [List.getElem?_append_left hi] at hx
              exact (e i x hx).same s2
            · have := List.mem_of_getElem? hx
              rw [List.getElem?_append_right (by walk_at "om")] at hx
              have hm := List.mem_of_getElem? hx
              rw [List.mem_singleton.mp hm]
              exact .flat rfl
          refine newT_rd (fun t1 H3 f3 s3 h3 => ?_)
          walk_at "wh"
          refine isiT_on h3 (o.same s3).plain (fun fx => ?_) (fun p1 ep => ?_)
          · walk_at "wh"
            refine br_F ?_
            refine br_F ?_
            walk_at "wh"
            exact ⟨_, rfl, s2.trans s3⟩
          · walk_at "wh"
            refine br_T ?_
            walk_at "wh"
            subst ep
            refine ⟨p1, rfl, o.same s3, fun H4 s4 => ?_⟩
            refine br_not (br_T ?_)
            walk_at "wh"
            exact ⟨_, rfl, (s2.trans s3).trans s4⟩
        · rintro σ H2 ⟨t, rfl, s2⟩
          walk_at "wh"
          exact q _ s2
  unfold sp__law_once
  exact key 6
-- @@split
/-! ### whole numbers, plans, parts, mixes: of things of any kind -/
noncomputable def fromD (l : Int) : PyData → Bool
  | .int i => decide (l ≤ i)
  | _ => false
/-! plans -/
noncomputable def itemsD : PyData → List PyData
  | .list ds => ds
  | _ => []
noncomputable def sendsD : PyData → Bool
  | .list ds => ds.all (fromD 0)
  | _ => false
theorem fromD_int {l : Int} {d : PyData} (h : fromD l d = true) : ∃ i : Int, d = .int i ∧ l ≤ i := by
  cases d with
  | int i => exact ⟨i, rfl, of_decide_eq_true h⟩
  | _ => simp [fromD] at h
theorem sml_len {ds : List PyData} (h : sml (.list ds) = true) : ds.length ≤ 1000 ∧ ∀ d ∈ ds, sml d = true := by
  simp only [sml, Bool.and_eq_true, decide_eq_true_eq] at h
  exact ⟨h.1, smlAll_mem h.2⟩
theorem smlT_len {ds : List PyData} (h : sml (.tuple ds) = true) : ds.length ≤ 1000 ∧ ∀ d ∈ ds, sml d = true := by
  simp only [sml, Bool.and_eq_true, decide_eq_true_eq] at h
  exact ⟨h.1, smlAll_mem h.2⟩
theorem shl_ints {H : Hp} : ∀ {xs : List V} {ds : List PyData}, ShL H xs ds → (∀ d ∈ ds, fromD 0 d = true) → ∃ ns : List Int, xs = ns.map V.int ∧ ds = ns.map PyData.int ∧ ∀ x ∈ ns, 0 ≤ x
  | _, _, .nil, _ => ⟨[], rfl, rfl, fun _ h => by cases h⟩
  | _, _, .cons (x := x) (d := d) a b, h => by
    obtain ⟨i, rfl, hi⟩ := fromD_int (h d (.head _))
    obtain ⟨ns, e1, e2, e3⟩ := shl_ints b fun y hy => h y (.tail _ hy)
    cases a
    refine ⟨i :: ns, by rw [e1]; rfl, by rw [e2]; rfl, fun y hy => ?_⟩
    rcases List.mem_cons.mp hy with rfl | hy
    · exact hi
    · exact e3 y hy
/-- a plan that sends hosts: a list of whole numbers -/
theorem sends_ints {H : Hp} {v : V} {d : PyData} (h : ShV H v d) (e : sendsD d = true) : ∃ (a : Addr) (ns : List Int), v = .ref a ∧ H a = some (.lst (ns.map V.int)) ∧ d = .list (ns.map PyData.int) ∧ ∀ x ∈ ns, 0 ≤ x := by
  cases h
  case lst a xs ds e1 l =>
    have e : ds.all (fromD 0) = true := e
    rw [List.all_eq_true] at e
    obtain ⟨ns, rfl, rfl, e3⟩ := shl_ints l e
    exact ⟨a, ns, rfl, e1, rfl, e3⟩
  all_goals simp [sendsD] at e
noncomputable def partD : PyData → Bool
  | .tuple [a, b] => sendsD a && fromD 1 b
  | _ => false
theorem shl_two {H : Hp} {xs : List V} {ds : List PyData} (l : ShL H xs ds) (e : xs.length = 2) : ∃ x y a b, xs = [x, y] ∧ ds = [a, b] ∧ ShV H x a ∧ ShV H y b := by
  cases l with
  | nil => simp at e
  | cons h1 l =>
    cases l with
    | nil => simp at e
    | cons h2 l =>
      cases l with
      | nil => exact ⟨_, _, _, _, rfl, rfl, h1, h2⟩
      | cons _ _ => simp at e
theorem partD_no {ds : List PyData} (h : ds.length ≠ 2) : partD (.tuple ds) = false := by
  match ds, h with
  | [], _ => rfl
  | [_], _ => rfl
  | [_, _], h => simp at h
  | _ :: _ :: _ :: _, _ => rfl
/-- a part of a mix -/
theorem part_of {H : Hp} {v : V} {d : PyData} (h : ShV H v d) (e : partD d = true) : ∃ (t l : Addr) (w : Int) (ns : List Int), v = .ref t ∧ H t = some (.tup [.ref l, .int w]) ∧ H l = some (.lst (ns.map V.int)) ∧ d = .tuple [.list (ns.map PyData.int), .int w] ∧ (∀ x ∈ ns, 0 ≤ x) ∧ 1 ≤ w := by
  cases h
  case tup t xs ds e1 l =>
    have l2 : ds.length = 2 := Classical.byContradiction fun z => by rw [partD_no z] at e; cases e
    obtain ⟨x, y, a, b, rfl, rfl, ha, hb⟩ := shl_two l (by rw [l.len]; exact l2)
    have e : (sendsD a && fromD 1 b) = true := e
    rw [Bool.and_eq_true] at e
    obtain ⟨p, ns, rfl, h1, rfl, nn⟩ := sends_ints ha e.1
    obtain ⟨w, rfl, hw⟩ := fromD_int e.2
    cases hb
    exact ⟨t, p, w, ns, rfl, e1, h1, rfl, nn, hw⟩
  all_goals simp [partD] at e
/-! weights -/
-- @@split
/-! ### mixes -/
structure MixAt (H : Hp) (m : Addr) (ts : List (Addr × Addr)) (ms : List (List Int × Int)) : Prop where
  out : H m = some (.lst (ts.map fun t => V.ref t.1))
  len : ts.length = ms.length
  part : ∀ (i : Nat) t x, ts[i]? = some t → ms[i]? = some x → H t.1 = some (.tup [.ref t.2, .int x.2]) ∧ H t.2 = some (.lst (x.1.map V.int))
noncomputable abbrev OkM (h f : Int) (ms : List (List Int × Int)) : Prop := 1 ≤ ms.length ∧ ms.length ≤ 100 ∧ ((0 ≤ h ∧ h ≤ 40) ∧ 1 ≤ f ∧ f ≤ 8) ∧ ∀ x ∈ ms, (∀ n ∈ x.1, 0 ≤ n) ∧ (x.1.length : Int) = f ∧ x.1.sum = h ∧ 1 ≤ x.2
theorem MixAt.same {H H' : Hp} {m : Addr} {ts : List (Addr × Addr)} {ms : List (List Int × Int)} (M : MixAt H m ts ms) (s : Same H H') : MixAt H' m ts ms := ⟨s _ _ M.out, M.len, fun i t x h1 h2 => ⟨s _ _ (M.part i t x h1 h2).1, s _ _ (M.part i t x h1 h2).2⟩⟩
theorem MixAt.get {H : Hp} {m : Addr} {ts : List (Addr × Addr)} {ms : List (List Int × Int)} (M : MixAt H m ts ms) {i : Nat} (hi : i < ms.length) : ∃ t x, ts[i]? = some t ∧ ms[i]? = some x ∧ H t.1 = some (.tup [.ref t.2, .int x.2]) ∧ H t.2 = some (.lst (x.1.map V.int)) :=
  ⟨_, _, List.getElem?_eq_getElem (by have := M.len; omega), List.getElem?_eq_getElem hi, M.part i _ _ (List.getElem?_eq_getElem (by have := M.len; omega)) (List.getElem?_eq_getElem hi)⟩
theorem MixAt.elt {H : Hp} {m : Addr} {ts : List (Addr × Addr)} {ms : List (List Int × Int)} (M : MixAt H m ts ms) {i : Nat} {v : V} (e : (ts.map fun t => V.ref t.1)[i]? = some v) : ∃ t x, v = .ref t.1 ∧ ts[i]? = some t ∧ ms[i]? = some x ∧ H t.1 = some (.tup [.ref t.2, .int x.2]) ∧ H t.2 = some (.lst (x.1.map V.int)) := by
  rw [List.getElem?_map] at e
  obtain ⟨t, et, rfl⟩ := Option.map_eq_some_iff.mp e
  obtain ⟨t', x, h1, h2, h3⟩ := M.get (i := i) (by have := (List.getElem?_eq_some_iff.mp et).1; have := M.len; omega)
  rw [et] at h1
  cases h1
  exact ⟨t, x, rfl, et, h2, h3⟩
theorem MixAt.ix {H : Hp} {m : Addr} {ts : List (Addr × Addr)} {ms : List (List Int × Int)} (M : MixAt H m ts ms) {k : Nat} {x : List Int × Int} (e : ms[k]? = some x) : ∃ t, ts[k]? = some t ∧ atI (ts.map fun t => V.ref t.1) (k : Int) = some (.ref t.1) ∧ H t.1 = some (.tup [.ref t.2, .int x.2]) ∧ H t.2 = some (.lst (x.1.map V.int)) := by
  obtain ⟨t, x', h1, h2, h3⟩ := M.get (i := k) ((List.getElem?_eq_some_iff.mp e).1)
  rw [e] at h2
  cases h2
  exact ⟨t, h1, atI_nat (by rw [List.getElem?_map, h1]; rfl), h3⟩
/-! ### flows and rows, of things of any kind -/
-- @@split
/-! ### sums under keys -/
noncomputable def valG {κ : Type} [DecidableEq κ] (kv : List (κ × Int)) (k : κ) : Option Int := (kv.find? fun z => decide (z.1 = k)).map (·.2)
noncomputable def putG {κ : Type} [DecidableEq κ] (kv : List (κ × Int)) (k : κ) (n : Int) : List (κ × Int) := if (kv.any fun z => decide (z.1 = k)) = true then kv.map (fun z => if z.1 = k then (z.1, n) else z) else kv ++ [(k, n)]
noncomputable def addG {κ : Type} [DecidableEq κ] (s : List (κ × Int)) (z : κ × Int) : List (κ × Int) := putG s z.1 ((valG s z.1).getD 0 + z.2)
noncomputable def sumG {κ : Type} [DecidableEq κ] (zs : List (κ × Int)) : List (κ × Int) := zs.foldl addG []
noncomputable def dF {κ κ' : Type} (f : κ → κ') (kv : List (κ × Int)) : List (κ' × V) := kv.map fun z => (f z.1, V.int z.2)
section
variable {κ κ' : Type} [DecidableEq κ] [DecidableEq κ']
theorem valG_pos {z : κ × Int} {kv : List (κ × Int)} {k : κ} (e : z.1 = k) : valG (z :: kv) k = some z.2 := by unfold valG; rw [List.find?_cons, decide_eq_true e]; rfl
theorem valG_neg {z : κ × Int} {kv : List (κ × Int)} {k : κ} (e : ¬ z.1 = k) : valG (z :: kv) k = valG kv k := by unfold valG; rw [List.find?_cons, decide_eq_false e]
theorem valV_dF {f : κ → κ'} (hf : ∀ a b, f a = f b → a = b) (k : κ) : ∀ kv : List (κ × Int), valV (dF f kv) (f k) = (valG kv k).map V.int
  | [] => rfl
  | z :: kv => by
    show valV ((f z.1, V.int z.2) :: dF f kv) (f k) = _
    by_cases e : z.1 = k
    · rw [valV_pos (p := (f z.1, V.int z.2)) (congrArg f e), valG_pos e]; rfl
    · rw [valV_neg (p := (f z.1, V.int z.2)) (fun q => e (hf _ _ q)), valV_dF hf k kv, valG_neg e]
theorem putK_dF {f : κ → κ'} (hf : ∀ a b, f a = f b → a = b) (kv : List (κ × Int)) (k : κ) (n : Int) : putK (dF f kv) (f k) (.int n) = dF f (putG kv k n) := by
  unfold putK putG dF
  have e1 : ((kv.map fun z => (f z.1, V.int z.2)).any fun kv => decide (kv.1 = f k)) = kv.any fun z => decide (z.1 = k) := by
    rw [List.any_map]
    congr 1; funext z
    exact decide_eq_decide.mpr ⟨hf _ _, congrArg f⟩
  rw [e1]
  split
  · rw [List.map_map, List.map_map]
    refine List.map_congr_left fun z _ => ?_
    show (if f z.1 = f k then (f z.1, V.int n) else (f z.1, V.int z.2)) = (f (if z.1 = k then (z.1, n) else z).1, V.int (if z.1 = k then (z.1, n) else z).2)
    by_cases e : z.1 = k
    · rw [if_pos (congrArg f e), if_pos e]
    · rw [if_neg (fun q => e (hf _ _ q)), if_neg e]
  · rw [List.map_append]; rfl
theorem putG_len (kv : List (κ × Int)) (k : κ) (n : Int) : (putG kv k n).length ≤ kv.length + 1 := by
  unfold putG
  split
  · rw [List.length_map]; omega
  · rw [List.length_append]; exact Nat.le_refl _
theorem sumG_snoc (zs : List (κ × Int)) (z : κ × Int) : sumG (zs ++ [z]) = addG (sumG zs) z := by unfold sumG; rw [List.foldl_append]; rfl
theorem sumG_len (zs : List (κ × Int)) : (sumG zs).length ≤ zs.length := by
  have : ∀ (zs s : List (κ × Int)), (zs.foldl addG s).length ≤ s.length + zs.length := fun zs => by
    induction zs with
    | nil => exact fun s => Nat.le_refl _
    | cons z zs ih =>
      intro s
      have h1 := ih (addG s z)
      have h2 : (addG s z).length ≤ s.length + 1 := putG_len _ _ _
      rw [List.foldl_cons, List.length_cons]
      omega
  have := this zs []
  unfold sumG
  simpa using this
theorem sumG_take {zs : List (κ × Int)} {i : Nat} {z : κ × Int} (h : zs[i]? = some z) : sumG (zs.take (i + 1)) = addG (sumG (zs.take i)) z := by
  rw [List.take_succ, h]; exact sumG_snoc _ _
end
theorem pK_inj' (a b : Int × Int) (h : pK a = pK b) : a = b := by
  unfold pK at h
  simp only [List.cons.injEq, Sum.inl.injEq, and_true] at h
  exact Prod.ext h.1 h.2
-- @@split
/-! ### streams, of things of any kind -/
/-! ### the rows of a mix -/
structure RwAt (H : Hp) (p : Addr) (bs : List Addr) (xs : List (Int × Int × Int)) : Prop where
  out : H p = some (.lst (bs.map V.ref))
  len : bs.length = xs.length
  row : ∀ (i : Nat) b x, bs[i]? = some b → xs[i]? = some x → H b = some (.tup [.int x.1, .int x.2.1, .int x.2.2])
theorem RwAt.same {H H' : Hp} {p : Addr} {bs : List Addr} {xs : List (Int × Int × Int)} (R : RwAt H p bs xs) (s : Same H H') : RwAt H' p bs xs := ⟨s _ _ R.out, R.len, fun i b x e1 e2 => s _ _ (R.row i b x e1 e2)⟩
noncomputable def flw (ms : List (List Int × Int)) (i : Nat) : List ((Int × Int) × Int) := ms.map fun x => (((x.1.drop i).sum, x.1.getD i 0), x.2)
noncomputable def keyT (z : Int × Int × Int) : Int × Int := (z.1, z.2.1)
noncomputable def RowIs (ms : List (List Int × Int)) (i : Nat) (xs : List (Int × Int × Int)) : Prop := OrdK (xs.map keyT) ∧ (∀ k, k ∈ xs.map keyT ↔ k ∈ (sumG (flw ms i)).map (·.1)) ∧ ∀ z ∈ xs, valG (sumG (flw ms i)) (keyT z) = some z.2.2
theorem valG_key {κ : Type} [DecidableEq κ] {k : κ} : ∀ {kv : List (κ × Int)}, k ∈ kv.map (·.1) → ∃ n, valG kv k = some n
  | [], h => by cases h
  | z :: kv, h => by
    by_cases e : z.1 = k
    · exact ⟨z.2, valG_pos e⟩
    · rw [valG_neg e]
      rw [List.map_cons] at h
      rcases List.mem_cons.mp h with h | h
      · exact absurd h.symm e
      · exact valG_key h
/-! ### the stream of a mix -/
structure StAt (H : Hp) (p : Addr) (rs : List (Addr × List Addr)) (xss : List (List (Int × Int × Int))) : Prop where
  out : H p = some (.lst (rs.map fun r => V.ref r.1))
  len : rs.length = xss.length
  row : ∀ (i : Nat) r xs, rs[i]? = some r → xss[i]? = some xs → RwAt (rm p H) r.1 r.2 xs
  nd : (rs.map (·.1)).Nodup
theorem StAt.same {H H' : Hp} {p : Addr} {rs : List (Addr × List Addr)} {xss : List (List (Int × Int × Int))} (R : StAt H p rs xss) (s : Same H H') : StAt H' p rs xss := ⟨s _ _ R.out, R.len, fun i r xs e1 e2 => (R.row i r xs e1 e2).same (Same.rm s), R.nd⟩
noncomputable def StmIs (ms : List (List Int × Int)) (f : Nat) (xss : List (List (Int × Int × Int))) : Prop := xss.length = f ∧ ∀ (i : Nat) xs, xss[i]? = some xs → RowIs ms i xs ∧ xs.length ≤ ms.length
theorem getElem?_snoc {α : Type} {as : List α} {a b : α} {i : Nat} (h : (as ++ [a])[i]? = some b) : (i < as.length ∧ as[i]? = some b) ∨ (i = as.length ∧ b = a) := by
  by_cases hi : i < as.length
  · rw [List.getElem?_append_left hi] at h
    exact .inl ⟨hi, h⟩
  · rw [List.getElem?_append_right (by walk_at "om")] at h
    have : i - as.length = 0 := by
      have := (List.getElem?_eq_some_iff.mp h).1
      simp at this; omega
    rw [this] at h
    cases h
    exact .inr ⟨by walk_at "om", rfl⟩
theorem rows_nd {H1 I I1 : Hp} {acc r : Addr} {rs : List (Addr × List Addr)} {xss : List (List (Int × Int × Int))} {bs : List Addr} (nd : (rs.map (·.1)).Nodup) (hl : rs.length = xss.length) (rp : ∀ (i : Nat) r xs, rs[i]? = some r → xss[i]? = some xs → RwAt (rm acc (nw H1 I)) r.1 r.2 xs) (hr : I r = none) : ((rs ++ [(r, bs)]).map (·.1)).Nodup := by
  rw [List.map_append, List.nodup_append]
  refine ⟨nd, by simp, fun a ha b hb => ?_⟩
  obtain ⟨r', hr', rfl⟩ := List.mem_map.mp ha
  obtain ⟨i, ei⟩ := List.getElem?_of_mem hr'
  obtain ⟨xs, ex⟩ : ∃ xs, xss[i]? = some xs := ⟨_, List.getElem?_eq_getElem (by have := (List.getElem?_eq_some_iff.mp ei).1; omega)⟩
  have o := nw_same _ _ _ _ (rm_same _ _ _ _ (rp i r' xs ei ex).out)
  rw [show b = r by simpa using hb]
  exact ne_of_none o hr
-- @@split
/-! ### a copy all the way down, of things of any kind -/
theorem depth_mem {d : PyData} : ∀ {ds : List PyData}, d ∈ ds → d.depth ≤ PyData.depthAll ds
  | [], h => by cases h
  | e :: ds, h => by
    rw [show PyData.depthAll (e :: ds) = max e.depth (PyData.depthAll ds) from rfl]
    rcases List.mem_cons.mp h with rfl | h
    · exact Nat.le_max_left _ _
    · exact Nat.le_trans (depth_mem h) (Nat.le_max_right _ _)
/-! ### things of any kind that can be held against one another -/
noncomputable def okD (n : Nat) (d : PyData) : Prop := sml d = true ∧ d.canLay0 = true ∧ d.depth ≤ n
noncomputable def Rd (H : Hp) (v : V) (n : Nat) : Prop := ∃ d, ShV H v d ∧ okD n d ∧ (itemsD d).length < 60
theorem Rd.same {H H' : Hp} {v : V} {n : Nat} (h : Rd H v n) (s : Same H H') : Rd H' v n := by obtain ⟨d, h1, h2⟩ := h; exact ⟨d, h1.same s, h2⟩
theorem okD.up {n m : Nat} {d : PyData} (h : okD n d) (l : n ≤ m) : okD m d := ⟨h.1, h.2.1, Nat.le_trans h.2.2 l⟩
theorem Rd.up {H : Hp} {v : V} {n m : Nat} (h : Rd H v n) (l : n ≤ m := by decide) : Rd H v m := by obtain ⟨d, h1, h2⟩ := h; exact ⟨d, h1, h2.1.up l, h2.2⟩
theorem Rd.int {H : Hp} (i : Int) (n : Nat) : Rd H (.int i) n := ⟨.int i, .int i, ⟨rfl, rfl, Nat.zero_le _⟩, by show (0 : Nat) < 60; decide⟩
theorem Rd.bl {H : Hp} (b : Bool) (n : Nat) : Rd H (.bl b) n := ⟨.bool b, .bl b, ⟨rfl, rfl, Nat.zero_le _⟩, by show (0 : Nat) < 60; decide⟩
theorem canAll {ds : List PyData} (h : ∀ d ∈ ds, d.canLay0 = true) : PyData.canLayAll0 ds = true := by
  induction ds with
  | nil => rfl
  | cons d ds ih =>
    show (d.canLay0 && PyData.canLayAll0 ds) = true
    rw [h d (.head _), ih fun x hx => h x (.tail _ hx)]; rfl
theorem canAll_mem : ∀ {ds : List PyData}, PyData.canLayAll0 ds = true → ∀ d ∈ ds, d.canLay0 = true
  | [], _, d, h => by cases h
  | e :: ds, h, d, hd => by
    have h : (e.canLay0 && PyData.canLayAll0 ds) = true := h
    rw [Bool.and_eq_true] at h
    rcases List.mem_cons.mp hd with rfl | hd
    · exact h.1
    · exact canAll_mem h.2 d hd
theorem depAll {ds : List PyData} {n : Nat} (h : ∀ d ∈ ds, d.depth ≤ n) : PyData.depthAll ds ≤ n := by
  induction ds with
  | nil => exact Nat.zero_le _
  | cons d ds ih =>
    rw [show PyData.depthAll (d :: ds) = max d.depth (PyData.depthAll ds) from rfl]
    exact Nat.max_le.mpr ⟨h d (.head _), ih fun x hx => h x (.tail _ hx)⟩
theorem okD.list {n : Nat} {ds : List PyData} (l : ds.length ≤ 1000) (h : ∀ d ∈ ds, okD n d) : okD (n + 1) (.list ds) :=
  ⟨by simp only [sml, Bool.and_eq_true, decide_eq_true_eq]; exact ⟨by walk_at "om", smlAll_of fun d hd => (h d hd).1⟩, canAll fun d hd => (h d hd).2.1, Nat.succ_le_succ (depAll fun d hd => (h d hd).2.2)⟩
theorem okD.tuple {n : Nat} {ds : List PyData} (l : ds.length ≤ 1000) (h : ∀ d ∈ ds, okD n d) : okD (n + 1) (.tuple ds) :=
  ⟨by simp only [sml, Bool.and_eq_true, decide_eq_true_eq]; exact ⟨by walk_at "om", smlAll_of fun d hd => (h d hd).1⟩, canAll fun d hd => (h d hd).2.1, Nat.succ_le_succ (depAll fun d hd => (h d hd).2.2)⟩
theorem Rd.lst {H : Hp} {a : Addr} {xs : List V} {n : Nat} (e : H a = some (.lst xs)) (l : xs.length < 60) (h : ∀ x ∈ xs, Rd H x n) : Rd H (.ref a) (n + 1) := by
  obtain ⟨ds, h1, h2⟩ := ShL.ex (P := fun d => okD n d) fun x hx => by obtain ⟨d, h1, h2, _⟩ := h x hx; exact ⟨d, h1, h2⟩
  exact ⟨.list ds, .lst e h1, okD.list (by rw [← h1.len]; omega) h2, by show ds.length < 60; rw [← h1.len]; exact l⟩
theorem Rd.tup {H : Hp} {a : Addr} {xs : List V} {n : Nat} (e : H a = some (.tup xs)) (l : xs.length < 60) (h : ∀ x ∈ xs, Rd H x n) : Rd H (.ref a) (n + 1) := by
  obtain ⟨ds, h1, h2⟩ := ShL.ex (P := fun d => okD n d) fun x hx => by obtain ⟨d, h1, h2, _⟩ := h x hx; exact ⟨d, h1, h2⟩
  exact ⟨.tuple ds, .tup e h1, okD.tuple (by rw [← h1.len]; omega) h2, by show (0 : Nat) < 60; decide⟩
theorem eqv_refl : ∀ {n : Nat} {d : PyData}, d.depth ≤ n → d.canLay0 = true → d.eqv d = true
  | _, .none, _, _ => rfl
  | _, .bool b, _, _ => by show (b == b) = true; exact beq_self_eq_true _
  | _, .int i, _, _ => by show (i == i) = true; exact beq_self_eq_true _
  | _, .str x, _, _ => by show (x == x) = true; exact beq_self_eq_true _
  | 0, .list ds, h, _ => by have h : PyData.depthAll ds + 1 ≤ 0 := h; omega
  | 0, .tuple ds, h, _ => by have h : PyData.depthAll ds + 1 ≤ 0 := h; omega
  | n + 1, .list ds, h, c => by
    have h : PyData.depthAll ds + 1 ≤ n + 1 := h
    have c : PyData.canLayAll0 ds = true := c
    show PyData.eqvAll ds ds = true
    exact all ds (fun d hd => eqv_refl (n := n) (Nat.le_trans (depth_mem hd) (by walk_at "om")) (canAll_mem c d hd))
  | n + 1, .tuple ds, h, c => by
    have h : PyData.depthAll ds + 1 ≤ n + 1 := h
    have c : PyData.canLayAll0 ds = true := c
    show PyData.eqvAll ds ds = true
    exact all ds (fun d hd => eqv_refl (n := n) (Nat.le_trans (depth_mem hd) (by walk_at "om")) (canAll_mem c d hd))
  | _, .dict _, _, c => by cases (show false = true from c)
where all : ∀ ds : List PyData, (∀ d ∈ ds, d.eqv d = true) → PyData.eqvAll ds ds = true
  | [], _ => rfl
  | d :: ds, h => by
    show (d.eqv d && PyData.eqvAll ds ds) = true
    rw [h d (.head _), all ds fun x hx => h x (.tail _ hx)]; rfl
theorem okD.eqv {n : Nat} {d : PyData} (h : okD n d) : d.eqv d = true := eqv_refl h.2.2 h.2.1
theorem neS_rd {K : PySem.W.Frag} {H : Hp} {Q : VK} {n : Nat} {x y : V} {d : PyData} (hx : ShV H x d) (hy : ShV H y d) (o : okD n d) (hn : n ≤ 40) (q : Q (.bl false) H) : rNeXM K x y H Q := by
  have gen : rEqX K x y H fun v H' => match v with
      | .bl b => Q (.bl (!b)) H'
      | _ => False := eqS_rd hx hy o.2.1 o.2.1 (Nat.le_trans o.2.2 hn) (by rw [o.eqv]; exact q)
  unfold rNeXM rEqXM
  cases hx <;> cases hy
  case int i => show Q (.bl (!decide (i = i))) H; rw [decide_eq_true rfl]; exact q
  case bl i => show Q (.bl (!decide (i = i))) H; rw [decide_eq_true rfl]; exact q
  case str i => show Q (.bl (!decide (i = i))) H; rw [decide_eq_true rfl]; exact q
  all_goals exact gen
theorem mem_le_sumI : ∀ {ns : List Int}, (∀ x ∈ ns, 0 ≤ x) → (∀ x ∈ ns, x ≤ ns.sum) ∧ 0 ≤ ns.sum
  | [], _ => ⟨fun x h => by (cases h), Int.le_refl _⟩
  | n :: ns, h => by
    have h0 := h n (.head _)
    obtain ⟨i1, i2⟩ := mem_le_sumI (ns := ns) fun y hy => h y (.tail _ hy)
    rw [List.sum_cons]
    refine ⟨fun x hx => ?_, by walk_at "om"⟩
    rcases List.mem_cons.mp hx with rfl | hx
    · omega
    · have := i1 x hx; omega
/-! ### sums under keys, reckoned -/
section
variable {κ μ : Type} [DecidableEq κ] [DecidableEq μ]
noncomputable def atG (zs : List (κ × Int)) (k : κ) : Int := ((zs.filter fun z => decide (z.1 = k)).map (·.2)).sum
theorem valG_none {kv : List (κ × Int)} {k : κ} : k ∉ kv.map (·.1) → valG kv k = none := by
  induction kv with
  | nil => intro _; rfl
  | cons z kv ih =>
    intro h
    rw [List.map_cons, List.mem_cons, not_or] at h
    rw [valG_neg (fun e => h.1 e.symm), ih h.2]
theorem valG_map (kv : List (κ × Int)) (k j : κ) (n : Int) : valG (kv.map fun z => if z.1 = k then (z.1, n) else z) j = if j = k then (if j ∈ kv.map (·.1) then some n else none) else valG kv j := by
  induction kv with
  | nil => by_cases e : j = k <;> simp [e, valG]
  | cons z kv ih =>
    rw [List.map_cons]
    by_cases ez : z.1 = j
    · subst ez
      by_cases ek : z.1 = k
      · rw [if_pos ek, if_pos ek, valG_pos (z := (z.1, n)) rfl, if_pos (by simp)]
      · rw [if_neg ek, if_neg ek, valG_pos rfl, valG_pos rfl]
    · have : ¬ (if z.1 = k then (z.1, n) else z).1 = j := by split <;> exact ez
      rw [valG_neg this, ih, valG_neg ez]
      by_cases ek : j = k
      · rw [if_pos ek, if_pos ek]
        have : (j ∈ (z :: kv).map (·.1)) ↔ j ∈ kv.map (·.1) := by
          rw [List.map_cons, List.mem_cons]
          exact ⟨fun h => h.resolve_left fun e => ez e.symm, .inr⟩
        by_cases h : j ∈ kv.map (·.1)
        · rw [if_pos h, if_pos (this.mpr h)]
        · rw [if_neg h, if_neg fun z => h (this.mp z)]
      · rw [if_neg ek, if_neg ek]
theorem any_key (kv : List (κ × Int)) (k : κ) : (kv.any fun z => decide (z.1 = k)) = true ↔ k ∈ kv.map (·.1) := by
  rw [List.any_eq_true, List.mem_map]
  exact ⟨fun ⟨z, h1, h2⟩ => ⟨z, h1, of_decide_eq_true h2⟩, fun ⟨z, h1, h2⟩ => ⟨z, h1, decide_eq_true h2⟩⟩
theorem valG_app (kv : List (κ × Int)) (z : κ × Int) (j : κ) : valG (kv ++ [z]) j = match valG kv j with | some n => some n | none => if z.1 = j then some z.2 else none := by
  induction kv with
  | nil =>
    by_cases e : z.1 = j
    · show valG [z] j = if z.1 = j then some z.2 else none; rw [valG_pos e, if_pos e]
    · show valG [z] j = if z.1 = j then some z.2 else none; rw [valG_neg e, if_neg e]; rfl
  | cons y kv ih =>
    rw [List.cons_append]
    by_cases e : y.1 = j
    · rw [valG_pos e, valG_pos e]
    · rw [valG_neg e, valG_neg e, ih]
theorem valG_put (kv : List (κ × Int)) (k j : κ) (n : Int) : valG (putG kv k n) j = if j = k then some n else valG kv j := by
  unfold putG
  by_cases h : (kv.any fun z => decide (z.1 = k)) = true
  · rw [if_pos h, valG_map]
    by_cases e : j = k
    · rw [if_pos e, if_pos e, if_pos (by rw [e]; exact (any_key kv k).mp h)]
    · rw [if_neg e, if_neg e]
  · rw [if_neg h, valG_app]
    have hk : k ∉ kv.map (·.1) := fun z => h ((any_key kv k).mpr z)
    by_cases e : j = k
    · subst e
      rw [valG_none hk, if_pos rfl]
      first | done | exact if_pos rfl
    · rw [if_neg e]
      cases valG kv j with
      | none => exact if_neg fun z => e z.symm
      | some m => rfl
theorem atG_snoc (zs : List (κ × Int)) (z : κ × Int) (k : κ) : atG (zs ++ [z]) k = atG zs k + if z.1 = k then z.2 else 0 := by
  unfold atG
  rw [List.filter_append, List.map_append, List.sum_append]
  by_cases e : z.1 = k
  · rw [if_pos e, List.filter_cons, if_pos (decide_eq_true e)]; simp
  · rw [if_neg e, List.filter_cons, if_neg (by rw [decide_eq_false e]; exact Bool.false_ne_true)]; simp
theorem atG_cons (zs : List (κ × Int)) (z : κ × Int) (k : κ) : atG (z :: zs) k = (if z.1 = k then z.2 else 0) + atG zs k := by
  unfold atG
  by_cases e : z.1 = k
  · rw [if_pos e, List.filter_cons, if_pos (decide_eq_true e)]; simp
  · rw [if_neg e, List.filter_cons, if_neg (by rw [decide_eq_false e]; exact Bool.false_ne_true)]; simp
theorem snoc_ind {α : Type} {P : List α → Prop} (h0 : P []) (hs : ∀ xs x, P xs → P (xs ++ [x])) (xs : List α) : P xs := by
  have : ∀ n (xs : List α), xs.length = n → P xs := fun n => by
    induction n with
    | zero => intro xs h; rw [List.length_eq_zero_iff.mp h]; exact h0
    | succ n ih =>
      intro xs h
      have hn : xs ≠ [] := fun z => by rw [z] at h; simp at h
      rw [← List.dropLast_concat_getLast hn]
      exact hs _ _ (ih _ (by rw [List.length_dropLast]; omega))
  exact this _ xs rfl
theorem sum_val (zs : List (κ × Int)) (k : κ) : valG (sumG zs) k = if k ∈ zs.map (·.1) then some (atG zs k) else none := by
  induction zs using snoc_ind with
  | h0 => rfl
  | hs zs z ih =>
    rw [sumG_snoc]
    unfold addG
    rw [valG_put, atG_snoc]
    have mm : k ∈ (zs ++ [z]).map (·.1) ↔ (k ∈ zs.map (·.1) ∨ k ∈ [z].map (·.1)) := by rw [List.map_append, List.mem_append]
    by_cases e : k = z.1
    · subst e
      rw [if_pos rfl, if_pos (mm.mpr (.inr (by simp))), if_pos rfl, ih]
      by_cases h : z.1 ∈ zs.map (·.1)
      · rw [if_pos h]; rfl
      · rw [if_neg h]
        have : atG zs z.1 = 0 := by
          unfold atG
          rw [List.filter_eq_nil_iff.mpr fun y hy hd => h (List.mem_map.mpr ⟨y, hy, of_decide_eq_true hd⟩)]; rfl
        rw [this]; rfl
    · have z0 : (if z.1 = k then z.2 else 0) = 0 := if_neg fun q => e q.symm
      rw [if_neg e, ih, z0, Int.add_zero]
      have : (k ∈ zs.map (·.1) ∨ k ∈ [z].map (·.1)) ↔ k ∈ zs.map (·.1) := ⟨fun h => h.resolve_right fun q => e (by simpa using q), .inl⟩
      by_cases h : k ∈ zs.map (·.1)
      · rw [if_pos h, if_pos (mm.mpr (.inl h))]
      · rw [if_neg h, if_neg fun q => h (this.mp (mm.mp q))]
theorem put_keys (kv : List (κ × Int)) (k : κ) (n : Int) : (putG kv k n).map (·.1) = if k ∈ kv.map (·.1) then kv.map (·.1) else kv.map (·.1) ++ [k] := by
  unfold putG
  by_cases h : (kv.any fun z => decide (z.1 = k)) = true
  · rw [if_pos h, if_pos ((any_key kv k).mp h), List.map_map]
    refine List.map_congr_left fun z _ => ?_
    show (if z.1 = k then (z.1, n) else z).1 = z.1
    split <;> rfl
  · rw [if_neg h, if_neg fun z => h ((any_key kv k).mpr z), List.map_append]; rfl
theorem sum_keys (zs : List (κ × Int)) : ((sumG zs).map (·.1)).Nodup ∧ ∀ k, k ∈ (sumG zs).map (·.1) ↔ k ∈ zs.map (·.1) := by
  induction zs using snoc_ind with
  | h0 => exact ⟨List.nodup_nil, fun k => Iff.rfl⟩
  | hs zs z ih =>
    rw [sumG_snoc]
    unfold addG
    rw [put_keys]
    by_cases h : z.1 ∈ (sumG zs).map (·.1)
    · rw [if_pos h]
      refine ⟨ih.1, fun k => ?_⟩
      rw [ih.2, List.map_append, List.mem_append]
      exact ⟨.inl, fun q => q.elim id fun q => by rw [show k = z.1 by simpa using q]; exact (ih.2 _).mp h⟩
    · rw [if_neg h]
      refine ⟨?_, fun k => ?_⟩
      · rw [List.nodup_append]
        refine ⟨ih.1, by simp, fun a ha b hb => ?_⟩
        rw [show b = z.1 by simpa using hb]
        exact fun q => h (q ▸ ha)
      · rw [List.mem_append, ih.2, List.map_append, List.mem_append]; rfl
theorem atG_ge {zs : List (κ × Int)} (h1 : ∀ z ∈ zs, 1 ≤ z.2) : ∀ {k : κ}, (0 ≤ atG zs k) ∧ (k ∈ zs.map (·.1) → 1 ≤ atG zs k) := by
  induction zs with
  | nil => exact fun {k} => ⟨Int.le_refl _, fun h => by cases h⟩
  | cons z zs ih =>
    intro k
    obtain ⟨i1, i2⟩ := ih (fun y hy => h1 y (.tail _ hy)) (k := k)
    have z1 := h1 z (.head _)
    rw [atG_cons]
    by_cases e : z.1 = k
    · rw [if_pos e]
      exact ⟨by walk_at "om", fun _ => by walk_at "om"⟩
    · rw [if_neg e]
      refine ⟨by walk_at "om", fun h => ?_⟩
      rw [List.map_cons, List.mem_cons] at h
      have := i2 (h.resolve_left fun q => e q.symm)
      omega
end
/-! ### the stream of a mix is one -/
theorem ltP_iff {x y : Int × Int} : ltP x y = true ↔ x.1 < y.1 ∨ (x.1 = y.1 ∧ x.2 < y.2) := by
  unfold ltP
  by_cases e : x.1 = y.1
  · rw [if_pos (by simpa using e)]
    by_cases e2 : x.2 = y.2
    · rw [if_pos (by simpa using e2)]
      exact ⟨fun h => by (cases h), fun h => by walk_at "om"⟩
    · rw [if_neg (by simpa using e2), decide_eq_true_iff]; omega
  · rw [if_neg (by simpa using e), decide_eq_true_iff]; omega
theorem sum_drop_ge {ns : List Int} (nn : ∀ n ∈ ns, 0 ≤ n) {i : Nat} (hi : i < ns.length) : 0 ≤ ns.getD i 0 ∧ ns.getD i 0 ≤ (ns.drop i).sum ∧ (ns.drop i).sum - ns.getD i 0 = (ns.drop (i + 1)).sum := by
  have e : ns.drop i = ns[i] :: ns.drop (i + 1) := List.drop_eq_getElem_cons hi
  have g : ns.getD i 0 = ns[i] := by rw [List.getD_eq_getElem?_getD, List.getElem?_eq_getElem hi]; rfl
  have z := (mem_le_sumI (ns := ns.drop (i + 1)) fun n hn => nn n (List.mem_of_mem_drop hn)).2
  rw [g, e, List.sum_cons]
  exact ⟨nn _ (List.getElem_mem hi), by walk_at "om", by walk_at "om"⟩
structure OkS (ms : List (List Int × Int)) (h : Int) (f : Nat) : Prop where
  ne : 1 ≤ ms.length
  f1 : 1 ≤ f
  all : ∀ x ∈ ms, (∀ n ∈ x.1, 0 ≤ n) ∧ x.1.length = f ∧ x.1.sum = h ∧ 1 ≤ x.2
theorem row_mem {ms : List (List Int × Int)} {i : Nat} {xs : List (Int × Int × Int)} (R : RowIs ms i xs) {z : Int × Int × Int} (hz : z ∈ xs) : ∃ x ∈ ms, z.1 = (x.1.drop i).sum ∧ z.2.1 = x.1.getD i 0 := by
  have : keyT z ∈ (sumG (flw ms i)).map (·.1) := (R.2.1 _).mp (List.mem_map.mpr ⟨z, hz, rfl⟩)
  rw [(sum_keys _).2, List.mem_map] at this
  obtain ⟨y, hy, ey⟩ := this
  unfold flw at hy
  obtain ⟨x, hx, rfl⟩ := List.mem_map.mp hy
  have ey : ((x.1.drop i).sum, x.1.getD i 0) = (z.1, z.2.1) := ey
  exact ⟨x, hx, (congrArg Prod.fst ey).symm, (congrArg Prod.snd ey).symm⟩
theorem row_flow {ms : List (List Int × Int)} {h : Int} {f i : Nat} {xs : List (Int × Int × Int)} (O : OkS ms h f) (hi : i < f) (R : RowIs ms i xs) {z : Int × Int × Int} (hz : z ∈ xs) : 0 ≤ z.2.1 ∧ z.2.1 ≤ z.1 ∧ z.2.2 = atG (flw ms i) (keyT z) ∧ 1 ≤ z.2.2 := by
  obtain ⟨x, hx, e1, e2⟩ := row_mem R hz
  obtain ⟨nn, xl, _, _⟩ := O.all x hx
  obtain ⟨a, b, _⟩ := sum_drop_ge nn (i := i) (by walk_at "om")
  have v := R.2.2 z hz
  rw [sum_val] at v
  have km : keyT z ∈ (flw ms i).map (·.1) := (sum_keys _).2 _ |>.mp ((R.2.1 _).mp (List.mem_map.mpr ⟨z, hz, rfl⟩))
  rw [if_pos km] at v
  have v := Option.some.inj v
  have w : ∀ y ∈ flw ms i, 1 ≤ y.2 := fun y hy => by
    unfold flw at hy
    obtain ⟨x, hx, rfl⟩ := List.mem_map.mp hy
    exact (O.all x hx).2.2.2
  have g := (atG_ge w (k := keyT z)).2 km
  exact ⟨by walk_at "om", by walk_at "om", v.symm, by walk_at "om"⟩
-- @@split
@[irreducible] noncomputable def sp__law_stirred : Sp := fun vs H Q _ => ∃ n k : Int, vs = [.int n, .int k] ∧ 0 ≤ n ∧ n < 2147483629 ∧ 0 ≤ k ∧ k ≤ 10000000 ∧ ∀ r : Int, 0 ≤ r → r < 2147483587 → Q (.int r) H
theorem stirred_rd {H : Hp} {n k : Int} {Q : VK} {E : XK} (h0 : 0 ≤ n) (h1 : n < 2147483629) (h2 : 0 ≤ k) (h3 : k ≤ 10000000) (q : ∀ r : Int, 0 ≤ r → r < 2147483587 → Q (.int r) H) : sp__law_stirred [.int n, .int k] H Q E := by
  unfold sp__law_stirred; exact ⟨n, k, rfl, h0, h1, h2, h3, q⟩
theorem ok__law_stirred {f : Addr} {fd : FuncData} (F : Fun K "_law_stirred" "_law_stirred" s__law_stirred f fd) (N : Nm mg) : FnOk P w K mg base CX0 1 f fd ["_law_number", "_law_k"] sp__law_stirred := by
  refine F.ok sc__law_stirred (fun vs H Q E h => by unfold sp__law_stirred at h; obtain ⟨n, k, rfl, _⟩ := h; rfl) (fun cdv A outer s H vs Q E hr h => ?_)
  unfold sp__law_stirred at h
  obtain ⟨n, k, rfl, h1, h2, h3, h4, q⟩ := h
  refine ⟨_, (pss_cons (psS (i := 2) sc__law_stirred.nd (pe_op oMod (pe_op oMul (pe_op oAdd (pe_op oAdd (pe_op oMul (pq 0) (pq 0)) (pe_op oMul (pq 1) (pq 0))) (pe_op oMul (pe_op oMul pe_int (pq 1)) (pq 1))) pe_int) pe_int))
      (pss_one (ps_ret (pe_op oMod (pe_op oMul (pq 2) (pq 2)) pe_int)))), ?_⟩
  repeat walk_at "st"
  walk_at "wh"
  exact q _ (by assumption) (by assumption)
/-- a list that is drawn from: its number, its kind, how often -/
noncomputable def LeftAt (H : Hp) (a : Addr) (b : Int) : Prop := ∃ x y z : Int, H a = some (.lst [.int x, .int y, .int z]) ∧ (y = 1 ∨ (y = 0 ∧ 0 ≤ x ∧ x < 2147483629)) ∧ 0 ≤ z ∧ z ≤ b
theorem LeftAt.same {H H' : Hp} {a : Addr} {b : Int} (h : LeftAt H a b) (s : Same H H') : LeftAt H' a b := by
  obtain ⟨x, y, z, e, r⟩ := h
  exact ⟨x, y, z, s _ _ e, r⟩
local macro_rules | `(tactic| walk_at "la") => `(tactic| first | assumption | (refine LeftAt.same (H := ?H) ?l ?s; (case s => assumption); (case l => walk_at "la")) | fail "la")
theorem LeftAt.up {H : Hp} {a : Addr} {b c : Int} (h : LeftAt H a b) (l : b ≤ c) : LeftAt H a c := by
  obtain ⟨x, y, z, e1, e2, e3, e4⟩ := h
  exact ⟨x, y, z, e1, e2, e3, by walk_at "om"⟩
theorem LeftAt.ne {H : Hp} {a p : Addr} {b : Int} (h : LeftAt H a b) (f : H p = none) : p ≠ a := by
  obtain ⟨x, y, z, e, _⟩ := h
  exact Ne.symm (ne_of_none e f)
local macro_rules | `(tactic| walk_at "ne") => `(tactic| first | assumption | (apply Ne.symm; assumption) | (refine LeftAt.ne (H := ?H) (b := ?b) ?l ?f; (case f => assumption); (case l => walk_at "la")) | fail "ne")
@[irreducible] noncomputable def sp__law_opened : Sp := fun vs H Q _ => ∃ c : Int, vs = [.int c] ∧ ∀ p H', H p = none → Same H H' → LeftAt H' p 0 → Q (.ref p) H'
theorem opened_rd {H : Hp} {c : Int} {Q : VK} {E : XK} (q : ∀ p H', H p = none → Same H H' → LeftAt H' p 0 → Q (.ref p) H') : sp__law_opened [.int c] H Q E := by
  unfold sp__law_opened; exact ⟨c, rfl, q⟩
theorem ok__law_opened {f : Addr} {fd : FuncData} (F : Fun K "_law_opened" "_law_opened" s__law_opened f fd) (N : Nm mg) : FnOk P w K mg base CX0 1 f fd ["_law_cell"] sp__law_opened := by
  refine F.ok sc__law_opened (fun vs H Q E h => by unfold sp__law_opened at h; obtain ⟨n, rfl, _⟩ := h; rfl) (fun cdv A outer s H vs Q E hr h => ?_)
  unfold sp__law_opened at h
  obtain ⟨c, rfl, q⟩ := h
  refine ⟨_, (pss_cons (psIf (ptC oLt (pq 0) (pe_op oPow pe_int pe_int)) (pss_one (ps_ret (peLst (pa_cons (pe_op oMod (pq 0) pe_int) (pa_cons pe_int (pa_cons pe_int pa_nil)))))) pss_nil)
      (pss_one (ps_ret (peLst (pa_cons (pe_op oSub (pq 0) (pe_op oPow pe_int pe_int)) (pa_cons pe_int (pa_cons pe_int pa_nil))))))), ?_⟩
  walk_at "st"
  refine br_dec (fun h => ?_) (fun h => ?_)
  · repeat walk_at "st"
    walk_at "wh"
    exact q _ _ (by assumption) (by assumption) ⟨_, _, _, by assumption, .inr ⟨rfl, by assumption, by assumption⟩, by walk_at "om", by walk_at "om"⟩
  · repeat walk_at "st"
    walk_at "wh"
    exact q _ _ (by assumption) (by assumption) ⟨_, _, _, by assumption, .inl rfl, by walk_at "om", by walk_at "om"⟩
@[irreducible] noncomputable def sp__law_draw : Sp := fun vs H Q _ => ∃ (a : Addr) (m b : Int), vs = [.ref a, .int m] ∧ LeftAt H a b ∧ b ≤ 1000000 ∧ 0 < m ∧ m < 10 ^ 60 ∧ ∀ (d : Int) H', 0 ≤ d → d < m → Chg a H H' → LeftAt H' a (b + 4) → Q (.int d) H'
theorem draw_rd {H : Hp} {a : Addr} {m b : Int} {Q : VK} {E : XK} (hL : LeftAt H a b) (hb : b ≤ 1000000) (h0 : 0 < m) (h1 : m < 10 ^ 60) (q : ∀ (d : Int) H', 0 ≤ d → d < m → Chg a H H' → LeftAt H' a (b + 4) → Q (.int d) H') : sp__law_draw [.ref a, .int m] H Q E := by
  unfold sp__law_draw; exact ⟨a, m, b, rfl, hL, hb, h0, h1, q⟩
theorem ok__law_draw {f : Addr} {fd : FuncData} (F : Fun K "_law_draw" "_law_draw" s__law_draw f fd) (N : Nm mg) (D__law_stirred : Def P w K mg base CX0 1 "_law_stirred" ["_law_number", "_law_k"] sp__law_stirred) : FnOk P w K mg base CX0 2 f fd ["_law_left", "_law_base"] sp__law_draw := by
  refine F.ok sc__law_draw (fun vs H Q E h => by unfold sp__law_draw at h; obtain ⟨a, m, b, rfl, _⟩ := h; rfl) (fun cdv A outer s H vs Q E hr h => ?_)
  unfold sp__law_draw at h
  obtain ⟨a, m, b, rfl, ⟨x, y, z, hl, hy, hz0, hz1⟩, hb, hm0, hm1, q⟩ := h
  have hu := hu40 hr
  refine ⟨_, (pss_cons (psIf (ptC (oEqK (K := K) rfl (by exact hu)) (peIxK (K := K) rfl (pq 0) pe_int) pe_int) (pss_cons (psS (i := 2) sc__law_draw.nd (pe_op oMod (peIxK (K := K) rfl (pq 0) pe_int) (pq 1)))
      (pss_cons (ps_asg (pe_op oDiv (peIxK (K := K) rfl (pq 0) pe_int) (pq 1)) (pg_sub (pq 0) pe_int setM))
      (pss_one (ps_ret (pq 2))))) pss_nil)
      (pss_cons (psS (i := 3) sc__law_draw.nd pe_int)
      (pss_cons (psFor PassesOwn.never rfl (piRng1 N.range_ (pa_cons (peIxK (K := K) rfl (peLst (pa_cons pe_int (pa_cons pe_int pa_nil))) (pT cInt N.int_ bt_int (pa_cons (peC oGt (pq 1) (pe_op oPow pe_int pe_int)) pa_nil))) pa_nil)) (pg_name (i := 4) sc__law_draw.nd rfl (by first | exact Or.inl rfl | exact Or.inr rfl)) (pss_cons (ps_asg (pe_op oAdd (peIxK (K := K) rfl (pq 0) pe_int) pe_int) (pg_sub (pq 0) pe_int setM))
      (pss_cons (psS (i := 5) sc__law_draw.nd (pD D__law_stirred hr pass0 (pa_cons (peIxK (K := K) rfl (pq 0) pe_int) (pa_cons (peIxK (K := K) rfl (pq 0) pe_int) pa_nil))))
      (pss_one (psS (i := 3) sc__law_draw.nd (pe_op oAdd (pe_op oMul (pq 3) pe_int) (pe_op oMod (pe_op oMul (pq 5) (pe_op oAdd (pq 5) pe_int)) pe_int)))))))
      (pss_one (ps_ret (pe_op oMod (pq 3) (pq 1))))))), ?_⟩
  walk_at "st"
  refine br_dec (fun h => ?_) (fun h => ?_)
  · subst h
    walk_at "st"
    walk_at "st"
    walk_at "st"
    walk_at "st"
    refine set_rd hl (by rfl) (fun H1 hc h1 => ?_)
    walk_at "wh"
    exact q _ _ (by assumption) (by assumption) hc ⟨_, _, _, h1, .inl rfl, hz0, by walk_at "om"⟩
  · obtain ⟨rfl, hx0, hx1⟩ : y = 0 ∧ 0 ≤ x ∧ x < 2147483629 := by walk_at "om"
    refine newL_rd (fun p1 H1 hf1 hs1 ha1 => ?_)
    walk_at "st"
    refine ixAny_rd ha1 (by split <;> decide) (by show _ < ((2 : Nat) : Int); split <;> decide) (fun v hv => ?_)
    obtain ⟨j, rfl, hj1, hj4⟩ : ∃ j : Int, v = .int j ∧ 1 ≤ j ∧ j ≤ 4 := by
      simp only [List.mem_cons, List.not_mem_nil, or_false] at hv
      rcases hv with rfl | rfl
      · exact ⟨1, rfl, by decide, by decide⟩
      · exact ⟨4, rfl, by decide, by decide⟩
    refine range_rd (by decide) (by decide) (by walk_at "om") (by walk_at "om") ?_
    refine loop_range (fun i σ H2 => ∃ (num : Int) (t mx : Option V), σ = [some (.ref a), some (.int m), none, some (.int num), t, mx] ∧ 0 ≤ num ∧ Chg a H H2 ∧ H2 a = some (.lst [.int x, .int 0, .int (z + i)])) ?_ ?_ ?_
    · exact ⟨0, none, none, rfl, by decide, hs1.toChg, by rw [hs1 _ _ hl]; simp⟩
    · rintro i σ H2 hi ⟨num, t, mx, rfl, hn, hc, h2⟩
      have hi4 : (i : Int) < 4 := by walk_at "om"
      walk_at "st"
      refine set_rd h2 (by rfl) (fun H3 hc3 h3 => ?_)
      walk_at "st"
      walk_at "st"
      refine stirred_rd hx0 hx1 (by walk_at "om") (by walk_at "om") (fun r hr0 hr1 => ?_)
      walk_at "st"
      walk_at "st"
      walk_at "st"
      walk_at "wh"
      refine ⟨_, _, _, rfl, ?_, hc.trans hc3, ?_⟩
      · rename_i r2 hr20 hr21
        omega
      · rw [h3]
        have e : z + (i : Int) + 1 = z + ((i + 1 : Nat) : Int) := by walk_at "om"
        rw [← e]
        rfl
    · rintro σ H2 ⟨num, t, mx, rfl, hn, hc, h2⟩
      walk_at "st"
      walk_at "wh"
      exact q _ _ (by assumption) (by assumption) hc ⟨_, _, _, h2, .inr ⟨rfl, hx0, hx1⟩, by walk_at "om", by walk_at "om"⟩
theorem Chg.free' {a l : Addr} {H H' : Hp} (x : Chg a H H') (h : H' l = none) (n : l ≠ a) : H l = none := by
  cases e : H l with
  | none => rfl
  | some o =>
    have := x l o n e
    rw [h] at this
    cases this
theorem LeftAt.chg {H H' : Hp} {a p : Addr} {b : Int} (h : LeftAt H a b) (c : Chg p H H') (n : a ≠ p) : LeftAt H' a b := by
  obtain ⟨x, y, z, e, r⟩ := h
  exact ⟨x, y, z, c _ _ n e, r⟩
@[irreducible] noncomputable def sp__law_drawn_plan : Sp := fun vs H Q _ => ∃ (a : Addr) (b : Int) (h f : Nat), vs = [.ref a, .int h, .int f] ∧ LeftAt H a b ∧ b ≤ 100000 ∧ h ≤ 40 ∧ (1 ≤ f ∧ f ≤ 8) ∧ ∀ l H' (ns : List Int), H l = none → Chg a H H' → LeftAt H' a (b + 100) → l ≠ a → H' l = some (.lst (ns.map V.int)) → ns.length = f → ns.sum = h → (∀ x ∈ ns, 0 ≤ x) → Q (.ref l) H'
theorem drawn_plan_rd {H : Hp} {a : Addr} {b : Int} {h f : Nat} {Q : VK} {E : XK} (hL : LeftAt H a b) (hb : b ≤ 100000) (h1 : h ≤ 40) (h2 : 1 ≤ f) (h3 : f ≤ 8) (q : ∀ l H' (ns : List Int), H l = none → Chg a H H' → LeftAt H' a (b + 100) → l ≠ a → H' l = some (.lst (ns.map V.int)) → ns.length = f → ns.sum = h → (∀ x ∈ ns, 0 ≤ x) → Q (.ref l) H') : sp__law_drawn_plan [.ref a, .int h, .int f] H Q E := by
  unfold sp__law_drawn_plan; exact ⟨a, b, h, f, rfl, hL, hb, h1, ⟨h2, h3⟩, q⟩
theorem ok__law_drawn_plan {f : Addr} {fd : FuncData} (F : Fun K "_law_drawn_plan" "_law_drawn_plan" s__law_drawn_plan f fd) (N : Nm mg) (D__law_draw : Def P w K mg base CX0 2 "_law_draw" ["_law_left", "_law_base"] sp__law_draw) : FnOk P w K mg base CX0 3 f fd ["_law_left", "_law_hosts", "_law_many"] sp__law_drawn_plan := by
  refine F.ok sc__law_drawn_plan (fun vs H Q E h => by unfold sp__law_drawn_plan at h; obtain ⟨_, _, _, _, rfl, _⟩ := h; rfl) (fun cdv A outer s H vs Q E hr h => ?_)
  unfold sp__law_drawn_plan at h
  obtain ⟨a, b, h, f, rfl, hL, hb, h1, ⟨h2, h3⟩, q⟩ := h
  refine ⟨_, (pss_cons (psS (i := 3) sc__law_drawn_plan.nd (peLst pa_nil))
      (pss_cons (psS (i := 4) sc__law_drawn_plan.nd (pq 1))
      (pss_cons (psFor PassesOwn.never rfl (piRng1 N.range_ (pa_cons (pe_op oSub (pq 2) pe_int) pa_nil)) (pg_name (i := 5) sc__law_drawn_plan.nd rfl (by first | exact Or.inl rfl | exact Or.inr rfl)) (pss_cons (psS (i := 6) sc__law_drawn_plan.nd (peIxK (K := K) rfl (peLst (pa_cons (pD D__law_draw hr pass0 (pa_cons (pq 0) (pa_cons (pe_op oAdd (pq 4) pe_int) pa_nil))) (pa_cons pe_int (pa_cons (pq 4) pa_nil)))) (pe_op oDiv (pD D__law_draw hr pass0 (pa_cons (pq 0) (pa_cons pe_int pa_nil))) pe_int)))
      (pss_cons (ps_expr (peM_append (pq 3) (pa_cons (pq 6) pa_nil)))
      (pss_one (psS (i := 4) sc__law_drawn_plan.nd (pe_op oSub (pq 4) (pq 6)))))))
      (pss_one (ps_ret (pe_op oAdd (pq 3) (peLst (pa_cons (pq 4) pa_nil)))))))), ?_⟩
  refine newL_rd (fun l H1 f1 s1 h1' => ?_)
  have n1 : l ≠ a := hL.ne f1
  refine range_rd (by decide) (by decide) (by walk_at "om") (by walk_at "om") ?_
  refine loop_range (fun i σ H2 => ∃ (x y : Option V) (ns : List Int) (r : Int), σ = [some (.ref a), some (.int h), some (.int f), some (.ref l), some (.int r), x, y] ∧ Chg a H H2 ∧ LeftAt H2 a (b + 8 * i) ∧ H2 l = some (.lst (ns.map V.int)) ∧ ns.length = i ∧ ns.sum + r = h ∧ 0 ≤ r ∧ r ≤ 40 ∧ ∀ x ∈ ns, 0 ≤ x) ?_ ?_ ?_
  · exact ⟨_, _, [], h, rfl, s1.toChg, (hL.same s1).up (by walk_at "om"), h1', rfl, by simp, by walk_at "om", by walk_at "om", by simp⟩
  · rintro i σ H2 hi ⟨x0, y0, ns, r, rfl, c2, L2, e2, l2, t2, r0, r1, nn⟩
    have hi : i < 8 := by walk_at "om"
    refine draw_rd L2 (by walk_at "om") (by walk_at "om") (by walk_at "om") (fun d3 H3 d30 d31 c3 L3 => ?_)
    refine newL_rd (fun p5 H5 f5 s5 h5 => ?_)
    refine draw_rd (L3.same s5) (by walk_at "om") (by walk_at "om") (by walk_at "om") (fun d6 H6 d60 d61 c6 L6 => ?_)
    have h56 := c6 _ _ (L3.ne f5) h5
    have e26 : H6 l = some (.lst (ns.map V.int)) := c6 _ _ n1 (s5 _ _ (c3 _ _ n1 e2))
    walk_at "st"
    refine ixAny_rd h56 (by walk_at "om") (by simp only [List.length_cons, List.length_nil]; omega) ?_
    intro v hv
    obtain ⟨m, rfl, hm0, hm⟩ : ∃ m : Int, v = .int m ∧ 0 ≤ m ∧ m ≤ r := by
      simp only [List.mem_cons, List.not_mem_nil, or_false] at hv
      rcases hv with rfl | rfl | rfl <;> exact ⟨_, rfl, by walk_at "om", by walk_at "om"⟩
    clear hv
    refine lst_is e26 ?_
    refine app_rd e26 (by rw [List.length_map, sizeLine_eq]; omega) (fun H7 c7 h7 => ?_)
    walk_at "wh"
    have c26 : Chg a H H6 := ((c2.trans c3).same s5).trans c6
    refine ⟨_, _, ns ++ [m], r - m, rfl, fun b o h1 e => c7 _ _ (ne_of_none e f1) (c26 _ _ h1 e), (L6.chg c7 (Ne.symm n1)).up (by walk_at "om"), by rw [h7, List.map_append]; rfl, by rw [List.length_append, l2]; rfl, by rw [List.sum_append]; simp; omega, by walk_at "om", by walk_at "om", fun x hx => ?_⟩
    rcases List.mem_append.mp hx with hx | hx
    · exact nn x hx
    · have : x = m := by simpa using hx
      omega
  · rintro σ H2 ⟨x0, y0, ns, r, rfl, c2, L2, e2, l2, t2, r0, r1, nn⟩
    refine newL_rd (fun p3 H3 f3 s3 h3' => ?_)
    refine cat_rd (s3 _ _ e2) h3' (by rw [List.length_map, sizeLine_eq, List.length_singleton]; omega) (fun p4 H4 f4 s4 h4' => ?_)
    walk_at "wh"
    have L3 := (L2.same s3).same s4
    have m1 : p4 ≠ a := (L2.same s3).ne f4
    refine q p4 H4 (ns ++ [r]) (Chg.free' (c2.same s3) f4 m1) ((c2.same s3).same s4) (L3.up (by walk_at "om")) m1 (by rw [h4', List.map_append]; rfl) (by rw [List.length_append, l2, List.length_singleton]; omega) (by rw [List.sum_append]; simp; omega) (fun x hx => ?_)
    rcases List.mem_append.mp hx with hx | hx
    · exact nn x hx
    · have : x = r := by simpa using hx
      omega
noncomputable def wholeM (ms : List (List Int × Int)) : Int := (ms.map fun x => x.2).sum
noncomputable def Off (b : Addr) (ts : List (Addr × Addr)) : Prop := ∀ t ∈ ts, t.1 ≠ b ∧ t.2 ≠ b
theorem MixAt.chg {H H' : Hp} {m b : Addr} {ts : List (Addr × Addr)} {ms : List (List Int × Int)} (M : MixAt H m ts ms) (c : Chg b H H') (n : m ≠ b) (o : Off b ts) : MixAt H' m ts ms :=
  ⟨c _ _ n M.out, M.len, fun i t x h1 h2 => ⟨c _ _ (o t (List.mem_of_getElem? h1)).1 (M.part i t x h1 h2).1, c _ _ (o t (List.mem_of_getElem? h1)).2 (M.part i t x h1 h2).2⟩⟩
theorem MixAt.off {H : Hp} {m b : Addr} {ts : List (Addr × Addr)} {ms : List (List Int × Int)} (M : MixAt H m ts ms) (f : H b = none) : m ≠ b ∧ Off b ts := by
  refine ⟨ne_of_none M.out f, fun t ht => ?_⟩
  obtain ⟨i, hi⟩ := List.getElem?_of_mem ht
  obtain ⟨t', x, h1, h2, h3, h4⟩ := M.get (i := i) (by have := (List.getElem?_eq_some_iff.mp hi).1; have := M.len; omega)
  rw [hi] at h1
  cases h1
  exact ⟨ne_of_none h3 f, ne_of_none h4 f⟩
theorem MixAt.push {H H' : Hp} {m p q : Addr} {ts : List (Addr × Addr)} {ms : List (List Int × Int)} {x : List Int × Int} (M : MixAt H m ts ms) (c : Chg m H H') (o : Off m ts) (h' : H' m = some (.lst ((ts.map fun t => V.ref t.1) ++ [.ref p]))) (hp : H' p = some (.tup [.ref q, .int x.2])) (hq : H' q = some (.lst (x.1.map V.int))) : MixAt H' m (ts ++ [(p, q)]) (ms ++ [x]) := by
  refine ⟨by rw [h', List.map_append]; rfl, by rw [List.length_append, List.length_append, M.len]; rfl, fun i t y h1 h2 => ?_⟩
  by_cases hi : i < ts.length
  · rw [List.getElem?_append_left hi] at h1
    rw [List.getElem?_append_left (by have := M.len; omega)] at h2
    have := o t (List.mem_of_getElem? h1)
    exact ⟨c _ _ this.1 (M.part i t y h1 h2).1, c _ _ this.2 (M.part i t y h1 h2).2⟩
  · rw [List.getElem?_append_right (by walk_at "om")] at h1
    rw [List.getElem?_append_right (by have := M.len; omega)] at h2
    have e0 : i - ts.length = 0 := by
      have := (List.getElem?_eq_some_iff.mp h1).1
      simp at this; omega
    rw [e0] at h1
    rw [show i - ms.length = 0 by have := M.len; omega] at h2
    cases h1
    cases h2
    exact ⟨hp, hq⟩
theorem Off.push {b p q : Addr} {ts : List (Addr × Addr)} (o : Off b ts) (n1 : p ≠ b) (n2 : q ≠ b) : Off b (ts ++ [(p, q)]) := fun t ht => by
  rcases List.mem_append.mp ht with h | h
  · exact o t h
  · have : t = (p, q) := by simpa using h
    subst this
    exact ⟨n1, n2⟩
theorem wholeM_snoc (ms : List (List Int × Int)) (x : List Int × Int) : wholeM (ms ++ [x]) = wholeM ms + x.2 := by unfold wholeM; rw [List.map_append, List.sum_append]; simp
noncomputable def Nt (H : Hp) (ts : List (Addr × Addr)) : Prop := ∀ t ∈ ts, H t.1 = none ∧ H t.2 = none
theorem Nt.push {H : Hp} {p q : Addr} {ts : List (Addr × Addr)} (o : Nt H ts) (n1 : H p = none) (n2 : H q = none) : Nt H (ts ++ [(p, q)]) := fun t ht => by
  rcases List.mem_append.mp ht with h | h
  · exact o t h
  · have : t = (p, q) := by simpa using h
    subst this
    exact ⟨n1, n2⟩
noncomputable abbrev OkX (h f : Int) (x : List Int × Int) : Prop := (∀ n ∈ x.1, 0 ≤ n) ∧ (x.1.length : Int) = f ∧ x.1.sum = h ∧ 1 ≤ x.2
theorem all_push {α : Type} {p : α → Prop} {xs : List α} {y : α} (h : ∀ x ∈ xs, p x) (hy : p y) : ∀ x ∈ xs ++ [y], p x := fun x hx => by
  rcases List.mem_append.mp hx with h' | h'
  · exact h x h'
  · have : x = y := by simpa using h'
    subst this
    exact hy
@[irreducible] noncomputable def sp__law_drawn_mix : Sp := fun vs H Q _ => ∃ (a : Addr) (b : Int) (h f g : Nat), vs = [.ref a, .int h, .int f, .int g] ∧ LeftAt H a b ∧ b ≤ 60000 ∧ (h ≤ 40 ∧ 1 ≤ g ∧ g ≤ 6) ∧ (1 ≤ f ∧ f ≤ 8) ∧ ∀ m ts ms H', H m = none → Chg a H H' → LeftAt H' a (b + 2000) → MixAt H' m ts ms → m ≠ a → Off a ts → Off m ts → Nt H ts → OkM h f ms → wholeM ms ≤ 10 ^ 30 → ms.length ≤ 10 → Q (.ref m) H'
theorem drawn_mix_rd {H : Hp} {a : Addr} {b : Int} {h f g : Nat} {Q : VK} {E : XK} (hL : LeftAt H a b) (hb : b ≤ 60000) (h1 : h ≤ 40) (hg : 1 ≤ g ∧ g ≤ 6) (h2 : 1 ≤ f) (h3 : f ≤ 8) (q : ∀ m ts ms H', H m = none → Chg a H H' → LeftAt H' a (b + 2000) → MixAt H' m ts ms → m ≠ a → Off a ts → Off m ts → Nt H ts → OkM h f ms → wholeM ms ≤ 10 ^ 30 → ms.length ≤ 10 → Q (.ref m) H') : sp__law_drawn_mix [.ref a, .int h, .int f, .int g] H Q E := by
  unfold sp__law_drawn_mix; exact ⟨a, b, h, f, g, rfl, hL, hb, ⟨h1, hg⟩, ⟨h2, h3⟩, q⟩
theorem ok__law_drawn_mix {f : Addr} {fd : FuncData} (F : Fun K "_law_drawn_mix" "_law_drawn_mix" s__law_drawn_mix f fd) (N : Nm mg) (D__law_draw : Def P w K mg base CX0 2 "_law_draw" ["_law_left", "_law_base"] sp__law_draw) (D__law_drawn_plan : Def P w K mg base CX0 3 "_law_drawn_plan" ["_law_left", "_law_hosts", "_law_many"] sp__law_drawn_plan) : FnOk P w K mg base CX0 4 f fd ["_law_left", "_law_hosts", "_law_many", "_law_most"] sp__law_drawn_mix := by
  refine F.ok sc__law_drawn_mix (fun vs H Q E h => by unfold sp__law_drawn_mix at h; obtain ⟨_, _, _, _, _, rfl, _⟩ := h; rfl) (fun cdv A outer s H vs Q E hr h => ?_)
  unfold sp__law_drawn_mix at h
  obtain ⟨a, b, h, f, g, rfl, hL, hb, ⟨h1, g1, g6⟩, ⟨h2, h3⟩, q⟩ := h
  have hu := hu40 hr
  refine ⟨_, (pss_cons (psS (i := 4) sc__law_drawn_mix.nd (peLst pa_nil))
      (pss_cons (psFor PassesOwn.never rfl (piRng1 N.range_ (pa_cons (pe_op oAdd pe_int (pD D__law_draw hr pass0 (pa_cons (pq 0) (pa_cons (pq 3) pa_nil)))) pa_nil)) (pg_name (i := 5) sc__law_drawn_mix.nd rfl (by first | exact Or.inl rfl | exact Or.inr rfl)) (pss_cons (psS (i := 6) sc__law_drawn_mix.nd (peIxK (K := K) rfl (peLst (pa_cons pe_int (pa_cons (pe_op oAdd pe_int (pD D__law_draw hr pass0 (pa_cons (pq 0) (pa_cons pe_int pa_nil)))) (pa_cons (pe_op oAdd pe_int (pD D__law_draw hr pass0 (pa_cons (pq 0) (pa_cons (pe_op oPow pe_int pe_int) pa_nil)))) pa_nil)))) (pe_op oDiv (pD D__law_draw hr pass0 (pa_cons (pq 0) (pa_cons pe_int pa_nil))) pe_int)))
      (pss_one (ps_expr (peM_append (pq 4) (pa_cons (peTup (pa_cons (pD D__law_drawn_plan hr pass0 (pa_cons (pq 0) (pa_cons (pq 1) (pa_cons (pq 2) pa_nil)))) (pa_cons (pq 6) pa_nil))) pa_nil))))))
      (pss_cons (psCut (psIf (ptC (oEqK (K := K) rfl (by exact hu)) (pD D__law_draw hr pass0 (pa_cons (pq 0) (pa_cons pe_int pa_nil))) pe_int) (pss_one (ps_expr (peM_append (pq 4) (pa_cons (peTup (pa_cons (pT (cListK (K := K) rfl) N.list_ bt_list (pa_cons (peIxK (K := K) rfl (peIxK (K := K) rfl (pq 4) pe_int) pe_int) pa_nil)) (pa_cons (pe_op oAdd pe_int (pD D__law_draw hr pass0 (pa_cons (pq 0) (pa_cons pe_int pa_nil)))) pa_nil))) pa_nil)))) pss_nil))
      (pss_one (ps_ret (pq 4)))))), ?_⟩
  refine newL_rd (fun l H1 f1 s1 h1' => ?_)
  have n1 : l ≠ a := hL.ne f1
  refine draw_rd (hL.same s1) (by walk_at "om") (by walk_at "om") (by walk_at "om") (fun d H2 d0 d1 c2 L2 => ?_)
  refine range_rd (by decide) (by decide) (by walk_at "om") (by walk_at "om") ?_
  obtain ⟨n, en⟩ : ∃ n : Nat, (1 + d - 0).toNat = n := ⟨_, rfl⟩
  rw [en]
  have hn1 : 1 ≤ n ∧ n ≤ 6 := by walk_at "om"
  have c12 : Chg a H H2 := s1.toChg.trans c2
  refine loop_range (fun i σ H3 => ∃ (x y : Option V) (ts : List (Addr × Addr)) (ms : List (List Int × Int)), σ = [some (.ref a), some (.int h), some (.int f), some (.int g), some (.ref l), x, y] ∧ Chg a H H3 ∧ LeftAt H3 a (b + 4 + 200 * i) ∧ MixAt H3 l ts ms ∧ Off a ts ∧ Off l ts ∧ Nt H ts ∧ ms.length = i ∧ (∀ x ∈ ms, OkX h f x) ∧ wholeM ms ≤ i * (10 ^ 28 + 1)) ?_ ?_ ?_
  · refine ⟨_, _, [], [], rfl, c12, L2.up (by walk_at "om"), ⟨c2 _ _ n1 h1', rfl, fun i t x e => by simp at e⟩, ?_, ?_, ?_, rfl, ?_, ?_⟩
    · intro t ht; cases ht
    · intro t ht; cases ht
    · intro t ht; cases ht
    · intro x hx; cases hx
    · show wholeM [] ≤ _
      unfold wholeM
      simp
  · rintro i σ H3 hi ⟨x0, y0, ts, ms, rfl, c3, L3, M3, O1, O2, O3, l3, k3, w3⟩
    have hi : i < 6 := by walk_at "om"
    refine draw_rd L3 (by walk_at "om") (by walk_at "om") (by walk_at "om") (fun d4 H4 d40 d41 c4 L4 => ?_)
    walk_at "st"
    refine draw_rd L4 (by walk_at "om") (by walk_at "om") (by walk_at "om") (fun d5 H5 d50 d51 c5 L5 => ?_)
    refine newL_rd (fun p6 H6 f6 s6 h6 => ?_)
    refine draw_rd (L5.same s6) (by walk_at "om") (by walk_at "om") (by walk_at "om") (fun d7 H7 d70 d71 c7 L7 => ?_)
    have h67 := c7 _ _ (L5.ne f6) h6
    have M7 := (((M3.chg c4 n1 O1).chg c5 n1 O1).same s6).chg c7 n1 O1
    have c37 : Chg a H H7 := (((c3.trans c4).trans c5).same s6).trans c7
    walk_at "st"
    refine ixAny_rd h67 (by walk_at "om") (by simp only [List.length_cons, List.length_nil]; omega) ?_
    intro v hv
    obtain ⟨wt, rfl, wt0, wt1⟩ : ∃ m : Int, v = .int m ∧ 1 ≤ m ∧ m ≤ 10 ^ 28 + 1 := by
      simp only [List.mem_cons, List.not_mem_nil, or_false] at hv
      rcases hv with rfl | rfl | rfl <;> exact ⟨_, rfl, by walk_at "om", by walk_at "om"⟩
    clear hv h67 h6
    refine lst_is M7.out ?_
    refine drawn_plan_rd L7 (by walk_at "om") h1 h2 h3 (fun p8 H8 ns f8 c8 L8 n8 h8 k81 k82 k83 => ?_)
    have M8 := M7.chg c8 n1 O1
    have p8l : p8 ≠ l := Ne.symm (ne_of_none M7.out f8)
    refine newT_rd (fun p9 H9 f9 s9 h9 => ?_)
    have M9 := M8.same s9
    have p9l : p9 ≠ l := Ne.symm (ne_of_none M8.out f9)
    refine app_rd M9.out (by rw [List.length_map, sizeLine_eq, M9.len]; omega) (fun Ha ca ha => ?_)
    walk_at "wh"
    have Ma := M9.push ca O2 ha (x := (ns, wt)) (ca _ _ p9l h9) (ca _ _ p8l (s9 _ _ h8))
    have c39 : Chg a H H9 := (c37.trans c8).same s9
    refine ⟨_, _, _, _, rfl, fun b o z e => ca _ _ (ne_of_none e f1) (c39 _ _ z e), ((L8.same s9).chg ca (Ne.symm n1)).up (by walk_at "om"), Ma, O1.push (L8.ne f9) n8, O2.push p9l p8l, O3.push (Chg.free' (c37.trans c8) f9 (L8.ne f9)) (Chg.free' c37 f8 n8), by rw [List.length_append, l3]; rfl, all_push k3 ⟨k83, by rw [k81], k82, wt0⟩, ?_⟩
    rw [wholeM_snoc]
    push_cast
    rw [Int.add_mul]
    simp only [Int.one_mul]
    omega
  · rintro σ H3 ⟨x0, y0, ts, ms, rfl, c3, L3, M3, O1, O2, O3, l3, k3, w3⟩
    have w1 : ∀ x ∈ ms, 1 ≤ x.2 := fun x hx => (k3 x hx).2.2.2
    have wb : wholeM ms ≤ 6 * (10 ^ 28 + 1) := by
      have : (n : Int) ≤ 6 := by walk_at "om"
      have : (n : Int) * (10 ^ 28 + 1) ≤ 6 * (10 ^ 28 + 1) := Int.mul_le_mul_of_nonneg_right this (by decide)
      omega
    refine cut_rd (fun σ H5 => ∃ (x y : Option V) (ts : List (Addr × Addr)) (ms : List (List Int × Int)), σ = [some (.ref a), some (.int h), some (.int f), some (.int g), some (.ref l), x, y] ∧ Chg a H H5 ∧ LeftAt H5 a (b + 2000) ∧ MixAt H5 l ts ms ∧ Off a ts ∧ Off l ts ∧ Nt H ts ∧ OkM h f ms ∧ wholeM ms ≤ 10 ^ 30 ∧ ms.length ≤ 10) ?_ ?_
    · walk_at "wh"
      refine draw_rd L3 (by walk_at "om") (by walk_at "om") (by walk_at "om") (fun d4 H4 d40 d41 c4 L4 => ?_)
      have M4 := M3.chg c4 n1 O1
      refine br_dec (fun z => ?_) (fun z => ?_)
      · obtain ⟨x, ex⟩ : ∃ x, ms[0]? = some x := ⟨ms[0]'(by walk_at "om"), List.getElem?_eq_getElem _⟩
        obtain ⟨t, et, at0, ht, hp⟩ := M4.ix ex
        have kx := k3 x (List.mem_of_getElem? ex)
        refine lst_is M4.out ?_
        refine ixL_rd (v := .ref t.1) M4.out at0 ?_
        refine ixT_rd (v := .ref t.2) ht rfl ?_
        refine listL_rd (SqL.of hp) (fun p5 H5 f5 s5 h5 => ?_)
        refine draw_rd (L4.same s5) (by walk_at "om") (by walk_at "om") (by walk_at "om") (fun d6 H6 d60 d61 c6 L6 => ?_)
        have n5 : p5 ≠ a := L4.ne f5
        have M6 := (M4.same s5).chg c6 n1 O1
        have p5l : p5 ≠ l := Ne.symm (ne_of_none M4.out f5)
        refine newT_rd (fun p7 H7 f7 s7 h7 => ?_)
        have M7 := M6.same s7
        have p7l : p7 ≠ l := Ne.symm (ne_of_none M6.out f7)
        refine app_rd M7.out (by rw [List.length_map, sizeLine_eq, M7.len]; omega) (fun Ha ca ha => ?_)
        walk_at "wh"
        have Ma := M7.push ca O2 ha (x := (x.1, 1 + d6)) (ca _ _ p7l h7) (ca _ _ p5l (s7 _ _ (c6 _ _ n5 h5)))
        have c37 : Chg a H H7 := (((c3.trans c4).same s5).trans c6).same s7
        refine ⟨_, _, _, _, rfl, fun b o z e => ca _ _ (ne_of_none e f1) (c37 _ _ z e), ((L6.same s7).chg ca (Ne.symm n1)).up (by walk_at "om"), Ma, O1.push (L6.ne f7) n5, O2.push p7l p5l, O3.push (Chg.free' (((c3.trans c4).same s5).trans c6) f7 (L6.ne f7)) (Chg.free' (c3.trans c4) f5 n5), ⟨by rw [List.length_append]; simp, by rw [List.length_append, l3, List.length_singleton]; omega, by walk_at "om", all_push k3 ⟨kx.1, kx.2.1, kx.2.2.1, by walk_at "om"⟩⟩, ?_⟩
        rw [wholeM_snoc, List.length_append, l3, List.length_singleton]
        refine ⟨?_, by walk_at "om"⟩
        show wholeM ms + (1 + d6) ≤ 10 ^ 30
        omega
      · walk_at "wh"
        exact ⟨_, _, _, _, rfl, c3.trans c4, L4.up (by walk_at "om"), M4, O1, O2, O3, ⟨by walk_at "om", by walk_at "om", by walk_at "om", k3⟩, by walk_at "om", by walk_at "om"⟩
    · rintro σ H5 ⟨x5, y5, ts5, ms5, rfl, c5, L5, M5, O5, O6, O7, k5, w5, e5⟩
      walk_at "wh"
      exact q l ts5 ms5 H5 f1 c5 L5 M5 n1 O5 O6 O7 k5 w5 e5
-- @@split
/-! ### _law_flowing: the stream of a mix -/
@[irreducible] noncomputable def sp__law_flowing : Sp := fun vs H Q _ => ∃ (m : Addr) (ts : List (Addr × Addr)) (ms : List (List Int × Int)) (h : Int) (f : Nat), vs = [.ref m] ∧ MixAt H m ts ms ∧ OkS ms h f ∧ f ≤ 8 ∧ ms.length ≤ 20 ∧ ∀ (p : Addr) rs xss (H' : Hp), H p = none → Same H H' → StAt (nw H H') p rs xss → StmIs ms f xss → Q (.ref p) H'
theorem flowing_rd {H : Hp} {m : Addr} {ts : List (Addr × Addr)} {ms : List (List Int × Int)} {h : Int} {f : Nat} {Q : VK} {E : XK} (M : MixAt H m ts ms) (O : OkS ms h f) (hf : f ≤ 8) (hl : ms.length ≤ 20) (q : ∀ (p : Addr) rs xss (H' : Hp), H p = none → Same H H' → StAt (nw H H') p rs xss → StmIs ms f xss → Q (.ref p) H') : sp__law_flowing [.ref m] H Q E := by
  unfold sp__law_flowing; exact ⟨m, ts, ms, h, f, rfl, M, O, hf, hl, q⟩
theorem flw_len (ms : List (List Int × Int)) (i : Nat) : (flw ms i).length = ms.length := by unfold flw; rw [List.length_map]
set_option maxHeartbeats 0 in
theorem ok__law_flowing {f : Addr} {fd : FuncData} (F : Fun K "_law_flowing" "_law_flowing" s__law_flowing f fd) (N : Nm mg) : FnOk P w K mg base CX0 1 f fd ["_law_mix"] sp__law_flowing := by
  refine F.ok sc__law_flowing (fun vs H Q E h => by unfold sp__law_flowing at h; obtain ⟨_, _, _, _, _, rfl, _⟩ := h; rfl) (fun cdv A outer s H vs Q E hr h => ?_)
  unfold sp__law_flowing at h
  obtain ⟨m, ts, ms, h, f, rfl, M, O, hf8, hl, q⟩ := h
  have hu := hu40 hr
  have o1 := O.ne
  have o4 := O.all
  refine ⟨_, (pss_cons (psS (i := 1) sc__law_flowing.nd (peLst pa_nil))
      (pss_cons (psFor PassesOwn.never rfl (piRng1 N.range_ (pa_cons (pB (cLenK (K := K) rfl) N.len_ bt_len (pa_cons (peIxK (K := K) rfl (peIxK (K := K) rfl (pq 0) pe_int) pe_int) pa_nil)) pa_nil)) (pg_name (i := 2) sc__law_flowing.nd rfl (by first | exact Or.inl rfl | exact Or.inr rfl)) (pss_cons (psS (i := 3) sc__law_flowing.nd peDNewE)
      (pss_cons (psFor PassesOwn.never rfl (piSeqK (K := K) rfl (pq 0)) (pgAnyK (K := K) (n := 2) rfl rfl (pgsCons (pg_name (i := 4) sc__law_flowing.nd rfl (by first | exact Or.inl rfl | exact Or.inr rfl)) (pgsCons (pg_name (i := 5) sc__law_flowing.nd rfl (by first | exact Or.inl rfl | exact Or.inr rfl)) pgsNil))) (pss_cons (psS (i := 6) sc__law_flowing.nd (peTup (pa_cons (pB (cSumK (K := K) rfl rfl) N.sum_ bt_sum (pa_cons (pe_slice (slZK (K := K) rfl) (pq 4) (poSome (pq 2)) po_none) pa_nil)) (pa_cons (peIxK (K := K) rfl (pq 4) (pq 2)) pa_nil))))
      (pss_one (psDPut (by exact hu) (pq 3) (pq 6) (pe_op oAdd (peM_get2 (by exact hu) (pq 3) (pq 6) pe_int) (pq 5))))))
      (pss_one (ps_expr (peM_append (pq 1) (pa_cons (peComp (N := ["_law_key", "_law_flows"]) (ks := [none, some 3]) (piSeqK (K := K) rfl (pB (cSortO rfl) N.sorted_ bt_sorted (pa_cons (pq 3) pa_nil))) (fun cl C s3 H3 fp => (pg_name (i := 0) nb_7 rfl (by first | exact Or.inl rfl | exact Or.inr rfl))) (fun cl C s3 H3 fp => pts_nil) (fun cl C s3 H3 fp => (peTup (pa_cons (peIxK (K := K) rfl (pq 0) pe_int) (pa_cons (peIxK (K := K) rfl (pq 0) pe_int) (pa_cons (peDGet (by exact hu) (pq 1) (pq 0)) pa_nil))))) (.skip (.take rfl rfl (by first | exact Or.inl rfl | exact Or.inr rfl) .nil))) pa_nil)))))))
      (pss_one (ps_ret (pq 1))))), ?_⟩
  refine newL_rd (fun l H1 f1 s1 h1 => ?_)
  have M1 := M.same s1
  obtain ⟨x0, ex0⟩ : ∃ x, ms[0]? = some x := ⟨ms[0]'(by walk_at "om"), List.getElem?_eq_getElem _⟩
  obtain ⟨t0, et0, at0, ht0, hp0⟩ := M1.ix ex0
  have kx0 := (o4 x0 (List.mem_of_getElem? ex0)).2.1
  refine ixL_rd (v := .ref t0.1) M1.out at0 ?_
  refine ixT_rd (v := .ref t0.2) ht0 rfl ?_
  refine lenL_rd hp0 ?_
  rw [List.length_map, kx0]
  refine range_rd (by decide) (by decide) (by walk_at "om") (by walk_at "om") ?_
  rw [show ((f : Int) - 0).toNat = f by walk_at "om"]
  refine loop_range (fun i σ H2 => ∃ (k fl pl wt ky : Option V) (rs : List (Addr × List Addr)) (xss : List (List (Int × Int × Int))), σ = [some (.ref m), some (.ref l), k, fl, pl, wt, ky] ∧ Same H H2 ∧ StAt (nw H H2) l rs xss ∧ xss.length = i ∧ ∀ (k : Nat) xs, xss[k]? = some xs → RowIs ms k xs ∧ xs.length ≤ ms.length) ?_ ?_ ?_
  · exact ⟨_, _, _, _, _, [], [], rfl, s1, ⟨nw_at f1 h1, rfl, fun i r xs e => by simp at e, List.nodup_nil⟩, rfl, fun k xs e => by simp at e⟩
  · rintro i σ H2 hi ⟨k0, fl0, pl0, wt0, ky0, rs, xss, rfl, s2, S2, l2, b2⟩
    have S2l := S2.len
    refine dnT_rd (fun d H3 f3 s3 h3 => ?_)
    refine iterL_rd ((M.same s2).same s3).out ?_
    refine loop_list (xs := ts.map fun t => V.ref t.1) (fun j σ H4 => ∃ pl wt ky : Option V, σ = [some (.ref m), some (.ref l), some (.int (0 + i)), some (.ref d), pl, wt, ky] ∧ Same H2 H4 ∧ H4 d = some (.dT (dF pK (sumG ((flw ms i).take j))))) ?_ ?_ ?_ ?_
    · exact ⟨_, _, _, rfl, s3, h3⟩
    · rintro j σ H4 _ ⟨_, _, _, _, s4, _⟩
      exact SqL.of ((M.same s2).same s4).out
    · rintro j v σ H4 hj ⟨pl1, wt1, ky1, rfl, s4, hd⟩
      have M4 := (M.same s2).same s4
      obtain ⟨t, x, rfl, e1, e2, ht, hp⟩ := M4.elt hj
      have kx := (o4 x (List.mem_of_getElem? e2)).2.1
      have jl := (List.getElem?_eq_some_iff.mp e2).1
      have hix : i < x.1.length := by walk_at "om"
      have ez : (flw ms i)[j]? = some (((x.1.drop i).sum, x.1.getD i 0), x.2) := by unfold flw; rw [List.getElem?_map, e2]; rfl
      have gi : x.1[i]? = some (x.1.getD i 0) := by rw [List.getD_eq_getElem?_getD, List.getElem?_eq_getElem hix]; rfl
      refine unpT_rd ht ?_
      refine slL_rd (SqL.of hp) (fun p5 H5 f5 s5 h5 => ?_)
      rw [cut_drop (by walk_at "om"), show (0 + (i : Int)).toNat = i by walk_at "om", ← List.map_drop] at h5
      refine sum_rd h5 ?_
      refine ixL_rd (v := .int (x.1.getD i 0)) (s5 _ _ hp) (by rw [show (0 + (i : Int)) = ((i : Nat) : Int) by walk_at "om"]; exact atI_nat (by rw [List.getElem?_map, gi]; rfl)) ?_
      refine newT_rd (fun p6 H6 f6 s6 h6 => ?_)
      have hd6 := s6 _ _ (s5 _ _ hd)
      refine isdT_rd hd6 ?_
      refine dg2T_rd hd6 (k := pK ((x.1.drop i).sum, x.1.getD i 0)) h6 ?_
      have ev : (valV (dF pK (sumG ((flw ms i).take j))) (pK ((x.1.drop i).sum, x.1.getD i 0))).getD (V.int 0) = .int ((valG (sumG ((flw ms i).take j)) ((x.1.drop i).sum, x.1.getD i 0)).getD 0) := by
        rw [valV_dF pK_inj']
        cases valG (sumG ((flw ms i).take j)) ((x.1.drop i).sum, x.1.getD i 0) <;> rfl
      rw [ev]
      refine dpT_rd hd6 (k := pK ((x.1.drop i).sum, x.1.getD i 0)) h6 (by unfold dF; rw [List.length_map, sizeLine_eq]; have := sumG_len ((flw ms i).take j); rw [List.length_take, flw_len] at this; omega) (fun H7 c7 h7 => ?_)
      rw [putK_dF pK_inj'] at h7
      walk_at "wh"
      exact ⟨_, _, _, rfl, Same.chg ((s4.trans s5).trans s6) f3 c7, by rw [sumG_take ez]; exact h7⟩
    · rintro σ H4 ⟨pl1, wt1, ky1, rfl, s4, hd⟩
      rw [List.length_map, M.len, ← flw_len ms i, List.take_length] at hd
      have S4 := S2.same (nw_up s4)
      have hl4 := (nw_of S4.out).2
      have sl : (sumG (flw ms i)).length ≤ ms.length := by have := sumG_len (flw ms i); rwa [flw_len] at this
      have hd' : H4 d = some (.dT (((sumG (flw ms i)).map fun z => (z.1, V.int z.2)).map fun z => (pK z.1, z.2))) := by rw [hd, List.map_map]; rfl
      refine lst_is hl4 ?_
      refine soO_rd hd' (by rw [List.length_map]; omega) (fun p8 H8 bs ks f8 s8 pm od pr h8 => ?_)
      have pm : ks.Perm ((sumG (flw ms i)).map (·.1)) := by rw [List.map_map] at pm; exact pm
      have bl : bs.length = ks.length := pr.length
      have kl : ks.length ≤ ms.length := by have := pm.length_eq; rw [List.length_map] at this; omega
      have eg : ∀ x ∈ ks, valG (sumG (flw ms i)) x = some ((valG (sumG (flw ms i)) x).getD 0) := fun x hx => by
        obtain ⟨n, e⟩ := valG_key (pm.mem_iff.mp hx)
        rw [e]; rfl
      refine iterL_rd h8 ?_
      refine comp_F (n := (bs.map V.ref).length) (Wk.list (SqL.of h8)) (by rw [List.length_map, sizeLine_eq]; omega) (fun j => .tup [.int (ks.getD j (0, 0)).1, .int (ks.getD j (0, 0)).2, .int ((valG (sumG (flw ms i)) (ks.getD j (0, 0))).getD 0)]) (fun j σ => ∃ t : Option V, σ = [t, some (.ref d)]) ⟨none, rfl⟩ ?_ ?_
      · rintro j v σ H9 R' S' hj s9 hx ⟨t, rfl⟩ k
        rw [List.getElem?_map] at hx
        obtain ⟨b, eb, rfl⟩ := Option.map_eq_some_iff.mp hx
        obtain ⟨x, ex⟩ : ∃ x, ks[j]? = some x := ⟨ks[j]'(by have := (List.getElem?_eq_some_iff.mp eb).1; omega), List.getElem?_eq_getElem _⟩
        have eb' := s9 _ _ (paired_at pr j b x eb ex)
        rw [show ks.getD j (0, 0) = x by rw [List.getD_eq_getElem?_getD, ex]; rfl] at k
        have hd9 := s9 _ _ (s8 _ _ hd)
        refine br_T ?_
        refine ixT_rd (v := .int x.1) eb' rfl ?_
        refine ixT_rd (v := .int x.2) eb' rfl ?_
        refine dgT_rd hd9 (k := pK x) eb' (by rw [valV_dF pK_inj', eg x (List.mem_of_getElem? ex)]; rfl) ?_
        refine newT_rd (fun pa Ha fa sa ha => ?_)
        walk_at "wh"
        exact k _ _ _ fa sa ha ⟨_, rfl⟩
      · intro acc ps H9 F9
        rw [List.length_map] at F9
        have F9l := F9.len
        have s49 := s8.trans F9.same
        refine app_rd (s49 _ _ hl4) (by rw [List.length_map, sizeLine_eq]; omega) (fun Ha ca ha => ?_)
        walk_at "wh"
        have fl : ∀ b, H8 b = none → H b = none ∧ b ≠ l := fun b hb => ⟨s2.free (s4.free (s8.free hb)), Ne.symm (ne_of_none (s8 _ _ hl4) hb)⟩
        have s4a : Same (rm l (nw H H4)) (rm l (nw H Ha)) := fun b o z => by
          obtain ⟨z1, z2⟩ := rm_of z
          obtain ⟨z3, z4⟩ := nw_of z2
          exact rm_at z1 (nw_at z3 (ca _ _ z1 (s49 _ _ z4)))
        have em : (ks.map fun x => (x.1, x.2, (valG (sumG (flw ms i)) x).getD 0)).map keyT = ks := by
          rw [List.map_map]
          exact (List.map_congr_left fun x _ => rfl).trans (List.map_id _)
        have newrow : RwAt (rm l (nw H Ha)) acc ps (ks.map fun x => (x.1, x.2, (valG (sumG (flw ms i)) x).getD 0)) := by
          refine ⟨?_, by rw [List.length_map]; omega, fun j b x q1 q2 => ?_⟩
          · have z := fl acc F9.facc
            exact rm_at z.2 (nw_at z.1 (ca _ _ z.2 F9.out))
          · rw [List.getElem?_map] at q2
            obtain ⟨y, ey, rfl⟩ := Option.map_eq_some_iff.mp q2
            obtain ⟨z1, z2⟩ := F9.row j b q1
            rw [show ks.getD j (0, 0) = y by rw [List.getD_eq_getElem?_getD, ey]; rfl] at z2
            have z := fl b z1
            exact rm_at z.2 (nw_at z.1 (ca _ _ z.2 z2))
        refine ⟨_, _, _, _, _, rs ++ [(acc, ps)], xss ++ [ks.map fun x => (x.1, x.2, (valG (sumG (flw ms i)) x).getD 0)], rfl, Same.chg (s2.trans (s4.trans s49)) f1 ca, ⟨nw_at f1 (by rw [ha, List.map_append]; rfl), by rw [List.length_append, List.length_append, S2l]; rfl, fun k r xs e1 e2 => ?_, rows_nd (I1 := H9) (H1 := H) (I := H8) (acc := l) S4.nd S4.len (fun k r xs e1 e2 => (S4.row k r xs e1 e2).same (Same.rm (nw_up s8))) F9.facc⟩, by rw [List.length_append, l2]; rfl, fun k xs e => ?_⟩
        · rcases getElem?_snoc e1 with ⟨a1, a2⟩ | ⟨a1, rfl⟩
          · rcases getElem?_snoc e2 with ⟨b1, b2'⟩ | ⟨b1, _⟩
            · exact (S4.row k r xs a2 b2').same s4a
            · omega
          · rcases getElem?_snoc e2 with ⟨b1, _⟩ | ⟨b1, rfl⟩
            · omega
            · exact newrow
        · rcases getElem?_snoc e with ⟨b1, b2'⟩ | ⟨b1, rfl⟩
          · exact b2 k xs b2'
          · rw [b1, l2]
            refine ⟨⟨by rw [em]; exact od, fun k => by rw [em]; exact pm.mem_iff, fun z hz => ?_⟩, by rw [List.length_map]; exact kl⟩
            obtain ⟨x, hx, rfl⟩ := List.mem_map.mp hz
            exact eg x hx
  · rintro σ H2 ⟨k0, fl0, pl0, wt0, ky0, rs, xss, rfl, s2, S2, l2, b2⟩
    walk_at "wh"
    exact q l rs xss H2 f1 s2 S2 ⟨l2, b2⟩
-- @@split
/-! ### the rows as the law writes them -/
theorem join2_list (a b : Str) (r : List Str) : (Txt.join blank (a :: b :: r)).cps.toList = a.cps.toList ++ 32 :: (Txt.join blank (b :: r)).cps.toList := by
  rw [show Txt.join blank (a :: b :: r) = blank.join (a :: b :: r) from StrLaws.glued_eq_join _ _, show Txt.join blank (b :: r) = blank.join (b :: r) from StrLaws.glued_eq_join _ _]
  exact join_cons_list 32 a b r
theorem join1_list (a : Str) : (Txt.join blank [a]).cps.toList = a.cps.toList := by
  rw [show Txt.join blank [a] = blank.join [a] from StrLaws.glued_eq_join _ _, Str.join.eq_2]
theorem flow_b : ("flow " : Str).cps.toList = ("flow" : Str).cps.toList ++ [32] := by decide +kernel
theorem number_b : ("number " : Str).cps.toList = ("number" : Str).cps.toList ++ [32] := by decide +kernel
theorem blank_b : (" " : Str).cps.toList = [32] := by decide +kernel
theorem flR_text (k : Nat) (z : F3) : ("flow " : Str) ++ numS (k : Int) ++ (" " : Str) ++ numS z.1 ++ (" " : Str) ++ numS z.2.1 ++ (" " : Str) ++ numS z.2.2 = rtext (flR k z) := by
  refine PyProof.Rows.ext_toList ?_
  unfold rtext flR
  simp only [List.map_cons, List.map_nil, join2_list, join1_list, PySem.W.KT.app_list, flow_b, blank_b, List.append_assoc, List.singleton_append, List.cons_append, List.nil_append]
theorem nuR_text (k c : Nat) (n : Int) : ("number " : Str) ++ numS (k : Int) ++ (" " : Str) ++ numS (c : Int) ++ (" " : Str) ++ numS n = rtext (nuR k c n) := by
  refine PyProof.Rows.ext_toList ?_
  unfold rtext nuR
  simp only [List.map_cons, List.map_nil, join2_list, join1_list, PySem.W.KT.app_list, number_b, blank_b, List.append_assoc, List.singleton_append, List.cons_append, List.nil_append]
theorem app_len (a b : Str) : (a ++ b).length = a.length + b.length := by
  have h := congrArg List.length (PySem.W.KT.app_list a b)
  rw [List.length_append] at h
  exact h
theorem lens3 : (Str.ofString "flow ").length = 5 ∧ (Str.ofString "number ").length = 7 ∧ (Str.ofString " ").length = 1 := by decide +kernel
theorem num_rd {n : Int} {H : Hp} {Q : VK} (h : SmI n) (q : Q (.str (numS n)) H) : rStrA (.int n) H Q := strA_rd (.int n) h.shows q
noncomputable def txV (rs : List Rw) : List V := rs.map fun r => V.str (rtext r)
theorem txV_snoc (rs : List Rw) (r : Rw) : txV (rs ++ [r]) = txV rs ++ [.str (rtext r)] := by unfold txV; rw [List.map_append]; rfl
theorem txV_len (rs : List Rw) : (txV rs).length = rs.length := by unfold txV; rw [List.length_map]
theorem numR_snoc (k : Nat) (n : Int) : ∀ (c : Nat) (ns : List Int), numR k c (ns ++ [n]) = numR k c ns ++ [nuR k (c + ns.length) n]
  | c, [] => rfl
  | c, m :: r => by
    show nuR k c m :: numR k (c + 1) (r ++ [n]) = nuR k c m :: (numR k (c + 1) r ++ [_])
    rw [numR_snoc k n (c + 1) r, List.length_cons, show c + 1 + r.length = c + (r.length + 1) by walk_at "om"]
/-- the bounds of the stream of a mix -/
theorem OkM.s {h f : Nat} {ms : List (List Int × Int)} (K : OkM h f ms) : OkS ms h f :=
  ⟨K.1, by have := K.2.2.1; omega, fun x hx => ⟨(K.2.2.2 x hx).1, by have := (K.2.2.2 x hx).2.1; omega, (K.2.2.2 x hx).2.2.1, (K.2.2.2 x hx).2.2.2⟩⟩
theorem sum_nn {α : Type} {g : α → Int} : ∀ {xs : List α}, (∀ x ∈ xs, 0 ≤ g x) → 0 ≤ (xs.map g).sum
  | [], _ => Int.le_refl _
  | y :: r, h => by
    rw [List.map_cons, List.sum_cons]
    have := h y List.mem_cons_self
    have := sum_nn (xs := r) fun z hz => h z (List.mem_cons_of_mem _ hz)
    omega
/-- weights under one key are no more than all -/
theorem at_le {α : Type} [DecidableEq α] : ∀ {xs : List (α × Int)} (k : α), (∀ x ∈ xs, 0 ≤ x.2) → atG xs k ≤ (xs.map (·.2)).sum := by
  intro xs k h
  induction xs with
  | nil => exact Int.le_refl _
  | cons y r ih =>
    have := ih fun z hz => h z (List.mem_cons_of_mem _ hz)
    have hy := h y List.mem_cons_self
    rw [atG_cons, List.map_cons, List.sum_cons]
    split <;> omega
theorem drop_le {n : Nat} : ∀ {xs : List Int}, (∀ x ∈ xs, 0 ≤ x) → (xs.drop n).sum ≤ xs.sum := by
  intro xs h
  have e := congrArg List.sum (List.take_append_drop n xs)
  rw [List.sum_append] at e
  have := sum_nn (g := id) (xs := xs.take n) fun x hx => h x (List.mem_of_mem_take hx)
  rw [List.map_id] at this
  omega
theorem stm_px {ms : List (List Int × Int)} {h : Int} {f : Nat} {xss : List (List F3)} (O : OkS ms h f) (hh : h ≤ 40) (hf : f ≤ 8) (hl : ms.length ≤ 10) (hw : wholeM ms ≤ 10 ^ 30) (S : StmIs ms f xss) : (1 ≤ xss.length ∧ xss.length ≤ 8) ∧ (∀ xs ∈ xss, 1 ≤ xs.length ∧ xs.length ≤ 20) ∧ ∀ xs ∈ xss, ∀ z ∈ xs, SmI z.1 ∧ SmI z.2.1 ∧ SmI z.2.2 := by
  have f1 := O.f1
  refine ⟨by rw [S.1]; omega, fun xs hx => ?_, fun xs hx z hz => ?_⟩
  · obtain ⟨i, hi, rfl⟩ := List.getElem_of_mem hx
    obtain ⟨R, l⟩ := S.2 i _ (List.getElem?_eq_getElem hi)
    refine ⟨?_, by walk_at "om"⟩
    have x0 := O.ne
    have hm : ((flw ms i)[0]'(by unfold flw; rw [List.length_map]; omega)).1 ∈ (xss[i]).map keyT := (R.2.1 _).mpr ((sum_keys _).2 _ |>.mpr (List.mem_map.mpr ⟨_, List.getElem_mem _, rfl⟩))
    have := List.length_pos_of_mem hm
    rw [List.length_map] at this
    exact this
  · obtain ⟨i, hi, rfl⟩ := List.getElem_of_mem hx
    obtain ⟨R, _⟩ := S.2 i _ (List.getElem?_eq_getElem hi)
    obtain ⟨a1, a2, a3, a4⟩ := row_flow O (by rw [← S.1]; exact hi) R hz
    obtain ⟨x, hx, e1, e2⟩ := row_mem R hz
    have ox := O.all x hx
    have d := drop_le (n := i) ox.1
    have b : z.2.2 ≤ 10 ^ 30 := by
      refine Int.le_trans ?_ hw
      rw [a3]
      refine Int.le_trans (at_le _ fun y hy => ?_) (Int.le_of_eq ?_)
      · unfold flw at hy
        obtain ⟨u, hu, rfl⟩ := List.mem_map.mp hy
        have := (O.all u hu).2.2.2
        show 0 ≤ u.2
        omega
      · unfold flw wholeM
        rw [List.map_map]
        rfl
    have q1 := ox.2.2.1
    exact ⟨⟨by walk_at "om", by walk_at "om"⟩, ⟨by walk_at "om", by walk_at "om"⟩, ⟨by walk_at "om", by walk_at "om"⟩⟩
@[irreducible] noncomputable def sp__law_rows_of : Sp := fun vs H Q _ => ∃ (p st tb : Addr) (rs : List (Addr × List Addr)) (xss : List (List F3)) (qs : List Addr) (nss : List (List Int)), vs = [.ref p] ∧ PpX H p st tb rs xss qs nss ∧ PxB xss nss ∧ ∀ l H', H l = none → Same H H' → H' l = some (.lst (txV (flowsR 0 xss ++ numsR 0 nss))) → Q (.ref l) H'
theorem rows_of_rd {H : Hp} {p st tb : Addr} {rs : List (Addr × List Addr)} {xss : List (List F3)} {qs : List Addr} {nss : List (List Int)} {Q : VK} {E : XK} (A : PpX H p st tb rs xss qs nss) (B : PxB xss nss) (q : ∀ l H', H l = none → Same H H' → H' l = some (.lst (txV (flowsR 0 xss ++ numsR 0 nss))) → Q (.ref l) H') : sp__law_rows_of [.ref p] H Q E := by
  unfold sp__law_rows_of; exact ⟨p, st, tb, rs, xss, qs, nss, rfl, A, B, q⟩
theorem same_chg {H I J : Hp} {l : Addr} (f : H l = none) (s : Same H I) (c : Chg l I J) : Same H J := fun b o z => c _ _ (ne_of_none z f) (s _ _ z)
set_option maxHeartbeats 0 in
theorem ok__law_rows_of {f : Addr} {fd : FuncData} (F : Fun K "_law_rows_of" "_law_rows_of" s__law_rows_of f fd) (N : Nm mg) : FnOk P w K mg base CX0 1 f fd ["_law_paper"] sp__law_rows_of := by
  refine F.ok sc__law_rows_of (fun vs H Q E h => by unfold sp__law_rows_of at h; obtain ⟨_, _, _, _, _, _, _, rfl, _⟩ := h; rfl) (fun cdv A outer s H vs Q E hr h => ?_)
  unfold sp__law_rows_of at h
  obtain ⟨p, st, tb, rs, xss, qs, nss, rfl, A', B, q⟩ := h
  have hu := hu40 hr
  have l1 := flowsR_len (l := 20) 0 (xss := xss) fun xs hx => (B.rl xs hx).2
  have l2 := numsR_len (l := 20) 0 (nss := nss) fun xs hx => (B.nl xs hx).2
  have f1 := B.fl
  have t1 := B.tl
  have S := A'.stm
  have T := A'.tab
  have sl := S.len
  have tl := T.len
  refine ⟨_, (pss_cons (psS (i := 1) sc__law_rows_of.nd (peLst pa_nil))
      (pss_cons (psFor PassesOwn.never rfl (piEnumK (K := K) rfl N.enumerate_ (pa_cons (peIxK (K := K) rfl (pq 0) pe_int) pa_nil)) (pgAnyK (K := K) (n := 2) rfl rfl (pgsCons (pg_name (i := 2) sc__law_rows_of.nd rfl (by first | exact Or.inl rfl | exact Or.inr rfl)) (pgsCons (pg_name (i := 3) sc__law_rows_of.nd rfl (by first | exact Or.inl rfl | exact Or.inr rfl)) pgsNil))) (pss_one (psFor PassesOwn.never rfl (piSeqK (K := K) rfl (pq 3)) (pgAnyK (K := K) (n := 3) rfl rfl (pgsCons (pg_name (i := 4) sc__law_rows_of.nd rfl (by first | exact Or.inl rfl | exact Or.inr rfl)) (pgsCons (pg_name (i := 5) sc__law_rows_of.nd rfl (by first | exact Or.inl rfl | exact Or.inr rfl)) (pgsCons (pg_name (i := 6) sc__law_rows_of.nd rfl (by first | exact Or.inl rfl | exact Or.inr rfl)) pgsNil)))) (pss_one (ps_expr (peM_append (pq 1) (pa_cons (pe_op oAdd (pe_op oAdd (pe_op oAdd (pe_op oAdd (pe_op oAdd (pe_op oAdd (pe_op oAdd pe_str (pT (cStrA hr) N.str_ bt_str (pa_cons (pq 2) pa_nil))) pe_str) (pT (cStrA hr) N.str_ bt_str (pa_cons (pq 4) pa_nil))) pe_str) (pT (cStrA hr) N.str_ bt_str (pa_cons (pq 5) pa_nil))) pe_str) (pT (cStrA hr) N.str_ bt_str (pa_cons (pq 6) pa_nil))) pa_nil)))))))
      (pss_cons (psFor PassesOwn.never rfl (piEnumK (K := K) rfl N.enumerate_ (pa_cons (peIxK (K := K) rfl (pq 0) pe_int) pa_nil)) (pgAnyK (K := K) (n := 2) rfl rfl (pgsCons (pg_name (i := 2) sc__law_rows_of.nd rfl (by first | exact Or.inl rfl | exact Or.inr rfl)) (pgsCons (pg_name (i := 7) sc__law_rows_of.nd rfl (by first | exact Or.inl rfl | exact Or.inr rfl)) pgsNil))) (pss_one (psFor PassesOwn.never rfl (piEnumK (K := K) rfl N.enumerate_ (pa_cons (pq 7) pa_nil)) (pgAnyK (K := K) (n := 2) rfl rfl (pgsCons (pg_name (i := 8) sc__law_rows_of.nd rfl (by first | exact Or.inl rfl | exact Or.inr rfl)) (pgsCons (pg_name (i := 9) sc__law_rows_of.nd rfl (by first | exact Or.inl rfl | exact Or.inr rfl)) pgsNil))) (pss_one (ps_expr (peM_append (pq 1) (pa_cons (pe_op oAdd (pe_op oAdd (pe_op oAdd (pe_op oAdd (pe_op oAdd pe_str (pT (cStrA hr) N.str_ bt_str (pa_cons (pq 2) pa_nil))) pe_str) (pT (cStrA hr) N.str_ bt_str (pa_cons (pq 8) pa_nil))) pe_str) (pT (cStrA hr) N.str_ bt_str (pa_cons (pq 9) pa_nil))) pa_nil)))))))
      (pss_one (ps_ret (pq 1)))))), ?_⟩
  refine newL_rd (fun l H1 g1 s1 k1 => ?_)
  refine ixT_rd (v := .ref st) (s1 _ _ A'.out) rfl ?_
  refine enum_rd (s1 _ _ S.out) ?_
  refine loop_enum (xs := rs.map fun r => V.ref r.1) (fun i σ I => ∃ x2 x3 x4 x5 x6 x7 x8 x9 : Option V, σ = [some (.ref p), some (.ref l), x2, x3, x4, x5, x6, x7, x8, x9] ∧ Same H I ∧ I l = some (.lst (txV (flowsR 0 (xss.take i))))) ?_ ?_ ?_ ?_
  · exact ⟨_, _, _, _, _, _, _, _, rfl, s1, k1⟩
  · rintro i σ I _ ⟨_, _, _, _, _, _, _, _, _, sI, _⟩
    exact SqL.of (sI _ _ S.out)
  · rintro i y σ I e I' hy ⟨x2, x3, x4, x5, x6, x7, x8, x9, rfl, sI, hl⟩ fe sE he
    rw [List.getElem?_map] at hy
    obtain ⟨r, er, rfl⟩ := Option.map_eq_some_iff.mp hy
    have hi := (List.getElem?_eq_some_iff.mp er).1
    obtain ⟨xs, ex⟩ : ∃ xs, xss[i]? = some xs := ⟨_, List.getElem?_eq_getElem (by walk_at "om")⟩
    have sI' := sI.trans sE
    have X := S.row i r xs er ex
    have xl := X.len
    have xm := List.mem_of_getElem? ex
    have xh := (B.rl xs xm).2
    have ln := flowsR_len (l := 20) 0 (xss := xss.take i) fun ys hy => (B.rl ys (List.mem_of_mem_take hy)).2
    rw [List.length_take] at ln
    refine unpT_rd he ?_
    refine iterL_rd (sI' _ _ X.out) ?_
    refine loop_list (xs := r.2.map V.ref) (fun j σ J => ∃ x4 x5 x6 x7 x8 x9 : Option V, σ = [some (.ref p), some (.ref l), some (.int i), some (.ref r.1), x4, x5, x6, x7, x8, x9] ∧ Same H J ∧ J l = some (.lst (txV (flowsR 0 (xss.take i) ++ (xs.take j).map (flR i))))) ?_ ?_ ?_ ?_
    · exact ⟨_, _, _, _, _, _, rfl, sI', by rw [List.take_zero, List.map_nil, List.append_nil]; exact sE _ _ hl⟩
    · rintro j σ J _ ⟨_, _, _, _, _, _, _, sJ, _⟩
      exact SqL.of (sJ _ _ X.out)
    · rintro j v σ J hj ⟨x4, x5, x6, x7, x8, x9, rfl, sJ, kJ⟩
      rw [List.getElem?_map] at hj
      obtain ⟨b, eb, rfl⟩ := Option.map_eq_some_iff.mp hj
      have jl := (List.getElem?_eq_some_iff.mp eb).1
      obtain ⟨z, ez⟩ : ∃ z, xs[j]? = some z := ⟨_, List.getElem?_eq_getElem (by walk_at "om")⟩
      obtain ⟨b1, b2, b3⟩ := B.rn xs xm z (List.mem_of_getElem? ez)
      have bk : SmI (i : Int) := SmI.nat (by walk_at "om")
      have n0 := numS_len bk
      have n1 := numS_len b1
      have n2 := numS_len b2
      have n3 := numS_len b3
      refine unpT_rd (sJ _ _ (X.row j b z eb ez)) ?_
      refine lst_is kJ ?_
      walk_at "wh"
      obtain ⟨c1, _, c2⟩ := lens3
      refine num_rd bk ?_
      refine ⟨by simp only [app_len, sizeLine_eq]; omega, ?_⟩
      walk_at "wh"
      refine ⟨by simp only [app_len, sizeLine_eq]; omega, ?_⟩
      refine num_rd b1 ?_
      refine ⟨by simp only [app_len, sizeLine_eq]; omega, ?_⟩
      walk_at "wh"
      refine ⟨by simp only [app_len, sizeLine_eq]; omega, ?_⟩
      refine num_rd b2 ?_
      refine ⟨by simp only [app_len, sizeLine_eq]; omega, ?_⟩
      walk_at "wh"
      refine ⟨by simp only [app_len, sizeLine_eq]; omega, ?_⟩
      refine num_rd b3 ?_
      refine ⟨by simp only [app_len, sizeLine_eq]; omega, ?_⟩
      refine app_rd kJ (by rw [txV_len, List.length_append, List.length_map, List.length_take, sizeLine_eq]; omega) (fun J2 d2 k2 => ?_)
      walk_at "wh"
      refine ⟨_, _, _, _, _, _, rfl, same_chg g1 sJ d2, ?_⟩
      rw [List.take_succ, ez]
      show J2 l = some (.lst (txV (flowsR 0 (xss.take i) ++ (xs.take j ++ [z]).map (flR i))))
      rw [List.map_append, ← List.append_assoc, List.map_cons, List.map_nil, txV_snoc, ← flR_text]
      exact k2
    · rintro σ J ⟨x4, x5, x6, x7, x8, x9, rfl, sJ, kJ⟩
      rw [List.length_map, List.take_of_length_le (l := xs) (by walk_at "om")] at kJ
      walk_at "wh"
      refine ⟨_, _, _, _, _, _, _, _, rfl, sJ, ?_⟩
      rw [List.take_succ, ex]
      show J l = some (.lst (txV (flowsR 0 (xss.take i ++ [xs]))))
      rw [flowsR_snoc, List.length_take, Nat.min_eq_left (by walk_at "om"), Nat.zero_add]
      exact kJ
  · rintro σ I ⟨x2, x3, x4, x5, x6, x7, x8, x9, rfl, sI, hl⟩
    rw [List.length_map, List.take_of_length_le (by walk_at "om")] at hl
    refine ixT_rd (v := .ref tb) (sI _ _ A'.out) rfl ?_
    refine enum_rd (sI _ _ T.out) ?_
    refine loop_enum (xs := qs.map V.ref) (fun i σ I => ∃ x2 x3 x4 x5 x6 x7 x8 x9 : Option V, σ = [some (.ref p), some (.ref l), x2, x3, x4, x5, x6, x7, x8, x9] ∧ Same H I ∧ I l = some (.lst (txV (flowsR 0 xss ++ numsR 0 (nss.take i))))) ?_ ?_ ?_ ?_
    · exact ⟨_, _, _, _, _, _, _, _, rfl, sI, by rw [List.take_zero]; show I l = some (.lst (txV (flowsR 0 xss ++ []))); rw [List.append_nil]; exact hl⟩
    · rintro i σ I _ ⟨_, _, _, _, _, _, _, _, _, sI, _⟩
      exact SqL.of (sI _ _ T.out)
    · rintro i y σ I e I' hy ⟨x2, x3, x4, x5, x6, x7, x8, x9, rfl, sI, hl⟩ fe sE he
      rw [List.getElem?_map] at hy
      obtain ⟨r, er, rfl⟩ := Option.map_eq_some_iff.mp hy
      have hi := (List.getElem?_eq_some_iff.mp er).1
      obtain ⟨ns, ex⟩ : ∃ xs, nss[i]? = some xs := ⟨_, List.getElem?_eq_getElem (by walk_at "om")⟩
      have sI' := sI.trans sE
      have X := T.row i r ns er ex
      have xm := List.mem_of_getElem? ex
      have xh := (B.nl ns xm).2
      have ln := numsR_len (l := 20) 0 (nss := nss.take i) fun ys hy => (B.nl ys (List.mem_of_mem_take hy)).2
      rw [List.length_take] at ln
      refine unpT_rd he ?_
      refine enum_rd (sI' _ _ X) ?_
      refine loop_enum (xs := ns.map V.int) (fun j σ J => ∃ x3 x4 x5 x6 x8 x9 : Option V, σ = [some (.ref p), some (.ref l), some (.int i), x3, x4, x5, x6, some (.ref r), x8, x9] ∧ Same H J ∧ J l = some (.lst (txV (flowsR 0 xss ++ numsR 0 (nss.take i) ++ numR i 0 (ns.take j))))) ?_ ?_ ?_ ?_
      · exact ⟨_, _, _, _, _, _, rfl, sI', by rw [List.take_zero]; show I' l = some (.lst (txV (_ ++ []))); rw [List.append_nil]; exact sE _ _ hl⟩
      · rintro j σ J _ ⟨_, _, _, _, _, _, _, sJ, _⟩
        exact SqL.of (sJ _ _ X)
      · rintro j v σ J e2 J' hj ⟨x3, x4, x5, x6, x8, x9, rfl, sJ, kJ⟩ fe2 sE2 he2
        rw [List.getElem?_map] at hj
        obtain ⟨n, en, rfl⟩ := Option.map_eq_some_iff.mp hj
        have jl := (List.getElem?_eq_some_iff.mp en).1
        have b1 := B.nn ns xm n (List.mem_of_getElem? en)
        have bk : SmI (i : Int) := SmI.nat (by walk_at "om")
        have bj : SmI (j : Int) := SmI.nat (by walk_at "om")
        have n0 := numS_len bk
        have n1 := numS_len b1
        have n2 := numS_len bj
        obtain ⟨_, c1, c2⟩ := lens3
        have kJ' := sE2 _ _ kJ
        refine unpT_rd he2 ?_
        refine lst_is kJ' ?_
        refine num_rd bk ?_
        refine ⟨by simp only [app_len, sizeLine_eq]; omega, ?_⟩
        walk_at "wh"
        refine ⟨by simp only [app_len, sizeLine_eq]; omega, ?_⟩
        refine num_rd bj ?_
        refine ⟨by simp only [app_len, sizeLine_eq]; omega, ?_⟩
        walk_at "wh"
        refine ⟨by simp only [app_len, sizeLine_eq]; omega, ?_⟩
        refine num_rd b1 ?_
        refine ⟨by simp only [app_len, sizeLine_eq]; omega, ?_⟩
        refine app_rd kJ' (by rw [txV_len, List.length_append, List.length_append, numR_len, List.length_take, sizeLine_eq]; omega) (fun J2 d2 k2 => ?_)
        walk_at "wh"
        refine ⟨_, _, _, _, _, _, rfl, same_chg g1 (sJ.trans sE2) d2, ?_⟩
        rw [List.take_succ, en]
        show J2 l = some (.lst (txV (flowsR 0 xss ++ numsR 0 (nss.take i) ++ numR i 0 (ns.take j ++ [n]))))
        rw [numR_snoc, ← List.append_assoc, txV_snoc, List.length_take, Nat.min_eq_left (by walk_at "om"), Nat.zero_add, ← nuR_text]
        exact k2
      · rintro σ J ⟨x3, x4, x5, x6, x8, x9, rfl, sJ, kJ⟩
        rw [List.length_map, List.take_of_length_le (l := ns) (Nat.le_refl _)] at kJ
        walk_at "wh"
        refine ⟨_, _, _, _, _, _, _, _, rfl, sJ, ?_⟩
        rw [List.take_succ, ex]
        show J l = some (.lst (txV (flowsR 0 xss ++ numsR 0 (nss.take i ++ [ns]))))
        rw [numsR_snoc, List.length_take, Nat.min_eq_left (by walk_at "om"), Nat.zero_add, ← List.append_assoc]
        exact kJ
    · rintro σ I ⟨x2, x3, x4, x5, x6, x7, x8, x9, rfl, sI, hl⟩
      rw [List.length_map, List.take_of_length_le (l := nss) (by walk_at "om")] at hl
      walk_at "wh"
      exact q l I g1 sI hl
-- @@split
/-! ### plain numbers all the way down -/
inductive PlD : Nat → PyData → Prop
  | int {k : Nat} {n : Int} : PlD k (.int n)
  | lst {k : Nat} {ds : List PyData} (h : ∀ d ∈ ds, PlD k d) : PlD (k + 1) (.list ds)
  | tup {k : Nat} {ds : List PyData} (h : ∀ d ∈ ds, PlD k d) : PlD (k + 1) (.tuple ds)
noncomputable def sp_plainN : Nat → Sp
  | 0 => fun _ _ _ _ => False
  | n + 1 => fun vs H Q _ => ∃ (v : V) (d : PyData), vs = [v] ∧ ShV H v d ∧ sml d = true ∧ PlD n d ∧ ∀ H', Same H H' → Q (.bl true) H'
@[irreducible] noncomputable def sp__law_plainly : Sp := sp_plainN 6
theorem plainly_rd {H : Hp} {v : V} {d : PyData} {Q : VK} {E : XK} (h : ShV H v d) (hs : sml d = true) (hp : PlD 5 d) (q : ∀ H', Same H H' → Q (.bl true) H') : sp__law_plainly [v] H Q E := by unfold sp__law_plainly; exact ⟨v, d, rfl, h, hs, hp, q⟩
theorem rep_true (n : Nat) : ((List.range n).filter fun _ => true).map (fun _ => V.bl true) = (List.replicate n true).map V.bl := by
  rw [filter_T, List.map_replicate]
  induction n with
  | zero => rfl
  | succ n ih => rw [List.range_succ, List.map_append, ih, List.replicate_succ']; rfl
set_option maxHeartbeats 0 in
theorem ok__law_plainly {f : Addr} {fd : FuncData} (F : Fun K "_law_plainly" "_law_plainly" s__law_plainly f fd) (N : Nm mg) (hgR : mg "_law_plainly" = some (.ref f)) (hkR : PySem.W.keepIn K (.ref f) = true) (hbR : Binds K fd ["_law_told"] []) : FnOk P w K mg base CX0 7 f fd ["_law_told"] sp__law_plainly := by
  have key : ∀ n, FnOk P w K mg base CX0 (n + 1) f fd ["_law_told"] (sp_plainN n) := by
    intro n
    induction n with
    | zero => exact F.ok sc__law_plainly (fun vs H Q E h => h.elim) (fun cdv A outer s H vs Q E hr h => h.elim)
    | succ n ih =>
      have D__law_plainly : Def P w K mg base CX0 (n + 1) "_law_plainly" ["_law_told"] (sp_plainN n) := ⟨f, fd, ih, hgR, hkR, hbR⟩
      refine F.ok sc__law_plainly (fun vs H Q E h => by obtain ⟨_, _, rfl, _⟩ := h; rfl) (fun cdv A outer s H vs Q E hr h => ?_)
      refine ⟨_, (pss_cons (psIf (ptW (pwOr (ptV (pB (cIsiK (K := K) rfl) N.isinstance_ bt_isinstance (pa_cons (pq 0) (pa_cons (pTy N.tuple_ bt_tuple) pa_nil)))) (pw_or1 (ptV (pB (cIsiK (K := K) rfl) N.isinstance_ bt_isinstance (pa_cons (pq 0) (pa_cons (pTy N.list_ bt_list) pa_nil))))))) (pss_one (ps_ret (peC (oNotInK (K := K) rfl) pe_bl (peComp (N := ["_law_one"]) (ks := [none]) (piSeqK (K := K) rfl (pq 0)) (fun cl C s3 H3 fp => (pg_name (i := 0) nb_9 rfl (by first | exact Or.inl rfl | exact Or.inr rfl))) (fun cl C s3 H3 fp => pts_nil) (fun cl C s3 H3 fp => (pD D__law_plainly hr pass0 (pa_cons (pq 0) pa_nil) (hk := by walk_at "om"))) (.skip .nil))))) pss_nil)
      (pss_one (ps_ret (peAnd (pB (cIsiK (K := K) rfl) N.isinstance_ bt_isinstance (pa_cons (pq 0) (pa_cons (pTy N.int_ bt_int) pa_nil))) (pe_one (peNot (pB (cIsiK (K := K) rfl) N.isinstance_ bt_isinstance (pa_cons (pq 0) (pa_cons (pTy N.bool_ bt_bool) pa_nil))))))))), ?_⟩
      obtain ⟨v, d, rfl, hv, hs, hp, q⟩ := h
      refine isiD_rd' hv (.inr (.inr (.inr rfl))) ?_
      cases hv
      case int i =>
        refine br_F ?_
        refine isiD_rd' (.int i) (.inr (.inr (.inl rfl))) ?_
        refine br_F ?_
        refine isiD_rd' (.int i) (.inl rfl) ?_
        refine br_T ?_
        refine isiD_rd' (.int i) (.inr (.inl rfl)) ?_
        walk_at "wh"
        exact q _ (Same.refl _)
      case tup a xs ds e l =>
        have ll := l.len
        obtain ⟨dl, dm⟩ := smlT_len hs
        have hp' : ∃ n', n = n' + 1 ∧ ∀ d ∈ ds, PlD n' d := by
          cases hp with
          | tup h => exact ⟨_, rfl, h⟩
        obtain ⟨n', rfl, hp'⟩ := hp'
        refine br_T ?_
        refine br_T ?_
        refine iterT_rd e ?_
        refine comp_I (Wk.tup e) (by rw [sizeLine_eq]; omega) (fun _ => .bl true) (fun _ => true) (fun j σ => ∃ t : Option V, σ = [t]) ⟨none, rfl⟩ ?_ ?_
        · rintro j x σ J R' S' hj sJ hx ⟨_, rfl⟩ kk _
          obtain ⟨d, ed, hd'⟩ := l.get j x hx
          have dd := List.mem_of_getElem? ed
          refine br_T ?_
          walk_at "wh"
          refine ⟨x, d, rfl, hd'.same sJ, dm d dd, hp' d dd, fun J1 s1 => ?_⟩
          walk_at "wh"
          exact kk rfl _ _ s1 ⟨_, rfl⟩
        intro acc I f1 s1 h1
        rw [rep_true] at h1
        refine notInL_rd (SqL.of h1) rfl (flat_bls _) ?_
        rw [inV_false, show (List.replicate xs.length true).all id = true from List.all_eq_true.mpr fun x hx => (List.mem_replicate.mp hx).2]
        walk_at "wh"
        exact q _ s1
      case lst a xs ds e l =>
        have ll := l.len
        obtain ⟨dl, dm⟩ := sml_len hs
        have hp' : ∃ n', n = n' + 1 ∧ ∀ d ∈ ds, PlD n' d := by
          cases hp with
          | lst h => exact ⟨_, rfl, h⟩
        obtain ⟨n', rfl, hp'⟩ := hp'
        refine br_F ?_
        refine isiD_rd' (.lst e l) (.inr (.inr (.inl rfl))) ?_
        refine br_T ?_
        refine iterL_rd e ?_
        refine comp_I (Wk.list (SqL.of e)) (by rw [sizeLine_eq]; omega) (fun _ => .bl true) (fun _ => true) (fun j σ => ∃ t : Option V, σ = [t]) ⟨none, rfl⟩ ?_ ?_
        · rintro j x σ J R' S' hj sJ hx ⟨_, rfl⟩ kk _
          obtain ⟨d, ed, hd'⟩ := l.get j x hx
          have dd := List.mem_of_getElem? ed
          refine br_T ?_
          walk_at "wh"
          refine ⟨x, d, rfl, hd'.same sJ, dm d dd, hp' d dd, fun J1 s1 => ?_⟩
          walk_at "wh"
          exact kk rfl _ _ s1 ⟨_, rfl⟩
        intro acc I f1 s1 h1
        rw [rep_true] at h1
        refine notInL_rd (SqL.of h1) rfl (flat_bls _) ?_
        rw [inV_false, show (List.replicate xs.length true).all id = true from List.all_eq_true.mpr fun x hx => (List.mem_replicate.mp hx).2]
        walk_at "wh"
        exact q _ s1
      all_goals exact absurd hp (fun h => nomatch h)
  unfold sp__law_plainly
  exact key 6
-- @@split
/-! ### a paper of a battle's form -/
theorem LeftAt.is {H : Hp} {a : Addr} {b : Int} (h : LeftAt H a b) : ∃ o, H a = some o := by
  obtain ⟨x, y, z, e, _⟩ := h
  exact ⟨_, e⟩
@[irreducible] noncomputable def sp__law_formed : Sp := fun vs H Q _ => ∃ (a : Addr) (b : Int), vs = [.ref a] ∧ LeftAt H a b ∧ b ≤ 100 ∧ ∀ p st tb rs xss qs nss H', Chg a H H' → LeftAt H' a (b + 6000) → PpX (rm a H') p st tb rs xss qs nss → PxB xss nss → Q (.ref p) H'
theorem formed_rd {H : Hp} {a : Addr} {b : Int} {Q : VK} {E : XK} (hL : LeftAt H a b) (hb : b ≤ 100) (q : ∀ p st tb rs xss qs nss H', Chg a H H' → LeftAt H' a (b + 6000) → PpX (rm a H') p st tb rs xss qs nss → PxB xss nss → Q (.ref p) H') : sp__law_formed [.ref a] H Q E := by
  unfold sp__law_formed; exact ⟨a, b, rfl, hL, hb, q⟩
set_option maxHeartbeats 0 in
theorem ok__law_formed {f : Addr} {fd : FuncData} (F : Fun K "_law_formed" "_law_formed" s__law_formed f fd) (N : Nm mg) (D__law_draw : Def P w K mg base CX0 2 "_law_draw" ["_law_left", "_law_base"] sp__law_draw) (D__law_drawn_mix : Def P w K mg base CX0 4 "_law_drawn_mix" ["_law_left", "_law_hosts", "_law_many", "_law_most"] sp__law_drawn_mix) (D__law_flowing : Def P w K mg base CX0 1 "_law_flowing" ["_law_mix"] sp__law_flowing) : FnOk P w K mg base CX0 5 f fd ["_law_left"] sp__law_formed := by
  refine F.ok sc__law_formed (fun vs H Q E h => by unfold sp__law_formed at h; obtain ⟨_, _, rfl, _⟩ := h; rfl) (fun cdv A outer s H vs Q E hr h => ?_)
  unfold sp__law_formed at h
  obtain ⟨a, b, rfl, hL, hb, q⟩ := h
  have hu := hu40 hr
  refine ⟨_, (pss_cons (psS (i := 1) sc__law_formed.nd (pD D__law_draw hr pass0 (pa_cons (pq 0) (pa_cons pe_int pa_nil))))
      (pss_cons (psS (i := 2) sc__law_formed.nd (pe_op oAdd pe_int (pD D__law_draw hr pass0 (pa_cons (pq 0) (pa_cons pe_int pa_nil)))))
      (pss_cons (psS (i := 3) sc__law_formed.nd (pe_op oAdd pe_int (pD D__law_draw hr pass0 (pa_cons (pq 0) (pa_cons pe_int pa_nil)))))
      (pss_cons (psC (i := 4) (N := ["_law_k", "_law_wide", "_law_left"]) (ks := [none, some 3, some 0]) sc__law_formed.nd (piRng1 N.range_ (pa_cons (pq 2) pa_nil)) (fun cl C s3 H3 fp => (pg_name (i := 0) nb_10 rfl (by first | exact Or.inl rfl | exact Or.inr rfl))) (fun cl C s3 H3 fp => pts_nil) (fun cl C s3 H3 fp => (peComp (N := ["_law_count", "_law_left"]) (ks := [none, some 2]) (piRng1 N.range_ (pa_cons (pq 1) pa_nil)) (fun cl C s3 H3 fp => (pg_name (i := 0) nb_11 rfl (by first | exact Or.inl rfl | exact Or.inr rfl))) (fun cl C s3 H3 fp => pts_nil) (fun cl C s3 H3 fp => (pe_op oSub (pD D__law_draw hr pass0 (pa_cons (pq 1) (pa_cons pe_int pa_nil))) pe_int)) (.skip (.take rfl rfl (by first | exact Or.inl rfl | exact Or.inr rfl) .nil)))) (.skip (.take rfl rfl (by first | exact Or.inl rfl | exact Or.inr rfl) (.take rfl rfl (by first | exact Or.inl rfl | exact Or.inr rfl) .nil))))
      (pss_one (ps_ret (peTup (pa_cons (pD D__law_flowing hr pass0 (pa_cons (pD D__law_drawn_mix hr pass0 (pa_cons (pq 0) (pa_cons (pq 1) (pa_cons (pq 2) (pa_cons pe_int pa_nil))))) pa_nil)) (pa_cons (pq 4) pa_nil))))))))), ?_⟩
  refine draw_rd hL (by walk_at "om") (by walk_at "om") (by walk_at "om") (fun h H1 h0 h1 c1 L1 => ?_)
  refine draw_rd L1 (by walk_at "om") (by walk_at "om") (by walk_at "om") (fun d H2 d0 d1 c2 L2 => ?_)
  refine draw_rd L2 (by walk_at "om") (by walk_at "om") (by walk_at "om") (fun e H7 e0 e1 c3 L7 => ?_)
  obtain ⟨hN, ehN⟩ : ∃ n : Nat, h = (n : Int) := ⟨h.toNat, by walk_at "om"⟩
  subst ehN
  obtain ⟨f, ef⟩ : ∃ n : Nat, 1 + d = (n : Int) := ⟨(1 + d).toNat, by walk_at "om"⟩
  obtain ⟨wd, ewd⟩ : ∃ n : Nat, 1 + e = (n : Int) := ⟨(1 + e).toNat, by walk_at "om"⟩
  have c07 : Chg a H H7 := (c1.trans c2).trans c3
  walk_at "wh"
  rw [ef, ewd]
  refine range_rd (by decide) (by decide) (by walk_at "om") (by walk_at "om") ?_
  rw [show ((f : Int) - 0).toNat = f by walk_at "om"]
  refine comp_rangeV (by rw [sizeLine_eq]; omega) (fun acc H8 f8 s8 h8 => ?_)
  have na : acc ≠ a := L7.ne f8
  refine ⟨fun j ys σ H9 => ∃ (t : Option V) (qs : List Addr) (zs : List (List Int)), σ = [t, some (.int wd), some (.ref a)] ∧ ys = qs.map V.ref ∧ qs.length = j ∧ zs.length = j ∧ (∀ (k : Nat) q z, qs[k]? = some q → zs[k]? = some z → q ≠ a ∧ q ≠ acc ∧ H9 q = some (.lst (z.map V.int)) ∧ z.length = wd ∧ ∀ v ∈ z, -(10 ^ 50) ≤ v ∧ v ≤ 10 ^ 50) ∧ LeftAt H9 a (b + 500 + 100 * j) ∧ Chg2 a acc H7 H9, ?_, ?_, ?_⟩
  · exact ⟨none, [], [], rfl, rfl, rfl, rfl, fun k q z e => by simp at e, (L7.same s8).up (by walk_at "om"), s8.to2⟩
  · rintro j m' ys σ H9 hj hm hl h9 ⟨t, qs, zs, rfl, rfl, ql, zl, pr, L9, c9⟩
    refine br_T ?_
    refine range_rd (by decide) (by decide) (by walk_at "om") (by walk_at "om") ?_
    rw [show ((wd : Int) - 0).toNat = wd by walk_at "om"]
    refine comp_rangeV (by rw [sizeLine_eq]; omega) (fun ac2 Ha fa sa ha => ?_)
    have na2 : ac2 ≠ a := L9.ne fa
    have naa : acc ≠ ac2 := ne_of_none h9 fa
    refine ⟨fun i ys σ Hb => ∃ (t : Option V) (z : List Int), σ = [t, some (.ref a)] ∧ ys = z.map V.int ∧ z.length = i ∧ (∀ v ∈ z, -(10 ^ 50) ≤ v ∧ v ≤ 10 ^ 50) ∧ LeftAt Hb a (b + 500 + 100 * j + 4 * i) ∧ Chg2 a ac2 H9 Hb, ?_, ?_, ?_⟩
    · exact ⟨none, [], rfl, rfl, rfl, fun v hv => (by cases hv), (L9.same sa).up (by walk_at "om"), sa.to2⟩
    · rintro i m2 ys σ Hb hi hm2 hl2 hb2 ⟨t2, z, rfl, rfl, lz, bz, Lb, cb⟩
      refine br_T ?_
      refine draw_rd Lb (by walk_at "om") (by walk_at "om") (by walk_at "om") (fun dd Hc dd0 dd1 cc Lc => ?_)
      refine cputV_rd hi hm2 hl2 (cc _ _ na2 hb2) (fun Hd cd hd => ?_)
      exact ⟨_, z ++ [dd - 99], rfl, by rw [List.map_append]; rfl, by rw [List.length_append, lz]; rfl, fun v hv => by
        rcases List.mem_append.mp hv with hv | hv
        · exact bz v hv
        · rw [List.mem_singleton.mp hv]; omega, (Lc.chg cd (Ne.symm na2)).up (by walk_at "om"), (cb.trans cc.toL).trans cd.toR⟩
    · rintro ys σ Hb hb2 ⟨t2, z, rfl, rfl, lz, bz, Lb, cb⟩
      refine cputV_rd hj hm hl (cb _ _ na naa h9) (fun Hd cd hd => ?_)
      refine ⟨_, qs ++ [ac2], zs ++ [z], rfl, by rw [List.map_append]; rfl, by rw [List.length_append, ql]; rfl, by rw [List.length_append, zl]; rfl, snoc_at (by walk_at "om") (fun k q' z' g1 g2 => ?_) ⟨na2, Ne.symm naa, cd _ _ (Ne.symm naa) hb2, lz, bz⟩, (Lb.chg cd (Ne.symm na)).up (by walk_at "om"), fun b' o n1 n2 e7 => cd _ _ n2 (cb _ _ n1 (ne_of_none (c9 _ _ n1 n2 e7) fa) (c9 _ _ n1 n2 e7))⟩
      obtain ⟨y1, y2, y3, y4, y5⟩ := pr k q' z' g1 g2
      exact ⟨y1, y2, cd _ _ y2 (cb _ _ y1 (ne_of_none y3 fa) y3), y4, y5⟩
  · rintro ys σ H9 h9 ⟨t, qs, zs, rfl, rfl, ql, zl, pr, L9, c9⟩
    have T9 : TbX (rm a H9) acc qs zs := ⟨rm_at na h9, by walk_at "om", fun i q' z' e1 e2 => rm_at (pr i q' z' e1 e2).1 (pr i q' z' e1 e2).2.2.1⟩
    have zb : ∀ z ∈ zs, z.length = wd ∧ ∀ v ∈ z, SmI v := fun z hz => by
      obtain ⟨i, hi, rfl⟩ := List.getElem_of_mem hz
      obtain ⟨y1, y2, y3, y4, y5⟩ := pr i (qs[i]'(by walk_at "om")) _ (List.getElem?_eq_getElem (by walk_at "om")) (List.getElem?_eq_getElem hi)
      exact ⟨y4, y5⟩
    refine drawn_mix_rd L9 (by walk_at "om") (by walk_at "om") (by walk_at "om") (by walk_at "om") (by walk_at "om") (fun mx ts ms Ha f3 c3' L3 M3 n3 o3 O3 w3 K3 l3 m3 => ?_)
    refine flowing_rd M3 (OkM.s K3) (by walk_at "om") (by walk_at "om") (fun st rs xss Hb f4 s4 S4 xi => ?_)
    obtain ⟨oa, ea⟩ := L3.is
    have Sb : StAt (rm a Hb) st rs xss := S4.same (nw_rm ea)
    have X : StX (rm a Hb) st rs xss := ⟨Sb.out, Sb.len, fun i r xs e1 e2 => (fun R => ⟨(rm_of R.out).2, R.len, fun j b' x g1 g2 => (rm_of (R.row j b' x g1 g2)).2⟩) (Sb.row i r xs e1 e2)⟩
    refine newT_rd (fun pp Hc fc sc hc => ?_)
    walk_at "wh"
    have Lb := L3.same s4
    obtain ⟨p1, p2, p3⟩ := stm_px (OkM.s K3) (by walk_at "om") (by walk_at "om") (by walk_at "om") l3 xi
    refine q pp st acc rs xss qs zs Hc (fun b' o z e => sc _ _ (s4 _ _ (c3' _ _ z (c9 _ _ z (ne_of_none (c07 _ _ z e) f8) (c07 _ _ z e))))) ((Lb.same sc).up (by walk_at "om")) ⟨rm_at (Lb.ne fc) hc, X.same (Same.rm sc), ((T9.same (Chg.rm c3')).same (Same.rm s4)).same (Same.rm sc)⟩ ⟨p1, p2, p3, by walk_at "om", fun z hz => by rw [(zb z hz).1]; omega, fun z hz => (zb z hz).2⟩
-- @@split
/-! ### a paper of any numbers -/
structure StO (I : Hp) (a l : Addr) (rs : List (Addr × List Addr)) (xss : List (List F3)) : Prop where
  out : I l = some (.lst (rs.map fun r => V.ref r.1))
  len : rs.length = xss.length
  row : ∀ (i : Nat) r xs, rs[i]? = some r → xss[i]? = some xs → RwX (rm l (rm a I)) r.1 r.2 xs
theorem StO.chg {I J : Hp} {a l : Addr} {rs : List (Addr × List Addr)} {xss : List (List F3)} (S : StO I a l rs xss) (n : l ≠ a) (c : Chg a I J) : StO J a l rs xss := ⟨c _ _ n S.out, S.len, fun i r xs e1 e2 => (S.row i r xs e1 e2).same (Same.rm (Chg.rm c))⟩
theorem StO.same {I J : Hp} {a l : Addr} {rs : List (Addr × List Addr)} {xss : List (List F3)} (S : StO I a l rs xss) (s : Same I J) : StO J a l rs xss := ⟨s _ _ S.out, S.len, fun i r xs e1 e2 => (S.row i r xs e1 e2).same (Same.rm (Same.rm s))⟩
theorem StO.push {I J : Hp} {a l w : Addr} {bs : List Addr} {xs : List F3} {rs : List (Addr × List Addr)} {xss : List (List F3)} (S : StO I a l rs xss) (c : Chg l I J) (k : J l = some (.lst ((rs.map fun r => V.ref r.1) ++ [.ref w]))) (R : RwX (rm l (rm a I)) w bs xs) : StO J a l (rs ++ [(w, bs)]) (xss ++ [xs]) := by
  have s : Same (rm l (rm a I)) (rm l (rm a J)) := fun b o z => by
    obtain ⟨z1, z2⟩ := rm_of z
    obtain ⟨z3, z4⟩ := rm_of z2
    exact rm_at z1 (rm_at z3 (c _ _ z1 z4))
  refine ⟨by rw [k, List.map_append]; rfl, by rw [List.length_append, List.length_append, S.len]; rfl, ?_⟩
  exact snoc_at (R := fun (r : Addr × List Addr) xs => RwX (rm l (rm a J)) r.1 r.2 xs) S.len (fun i r ys e1 e2 => (S.row i r ys e1 e2).same s) (R.same s)
theorem RwX.push {I J : Hp} {w b : Addr} {bs : List Addr} {xs : List F3} {x : F3} (R : RwX I w bs xs) (c : Chg w I J) (k : J w = some (.lst (bs.map V.ref ++ [.ref b]))) (h : J b = some (.tup [.int x.1, .int x.2.1, .int x.2.2])) : RwX J w (bs ++ [b]) (xs ++ [x]) := by
  refine ⟨by rw [k, List.map_append]; rfl, by rw [List.length_append, List.length_append, R.len]; rfl, ?_⟩
  refine snoc_at (R := fun b (x : F3) => J b = some (.tup [.int x.1, .int x.2.1, .int x.2.2])) R.len (fun i b' x' e1 e2 => ?_) h
  have hb := R.row i b' x' e1 e2
  exact c _ _ (fun z => by rw [z, R.out] at hb; cases hb) hb
theorem RwX.chgA {I J : Hp} {a w : Addr} {b : Int} {bs : List Addr} {xs : List F3} (R : RwX I w bs xs) (n : w ≠ a) (L : LeftAt I a b) (c : Chg a I J) : RwX J w bs xs := by
  refine ⟨c _ _ n R.out, R.len, fun i b' x e1 e2 => ?_⟩
  have hb := R.row i b' x e1 e2
  obtain ⟨u, v, z, hL, _⟩ := L
  exact c _ _ (fun y => by rw [y, hL] at hb; cases hb) hb
theorem RwX.rm2 {I : Hp} {a l w : Addr} {b : Int} {ys : List V} {bs : List Addr} {xs : List F3} (R : RwX I w bs xs) (n1 : w ≠ a) (n2 : w ≠ l) (L : LeftAt I a b) (k : I l = some (.lst ys)) : RwX (rm l (rm a I)) w bs xs := by
  refine ⟨rm_at n2 (rm_at n1 R.out), R.len, fun i b' x e1 e2 => ?_⟩
  have hb := R.row i b' x e1 e2
  obtain ⟨u, v, z, hL, _⟩ := L
  exact rm_at (fun y => by rw [y, k] at hb; cases hb) (rm_at (fun y => by rw [y, hL] at hb; cases hb) hb)
noncomputable abbrev OkF (xs : List F3) : Prop := ∀ z ∈ xs, SmI z.1 ∧ SmI z.2.1 ∧ SmI z.2.2
theorem okF_snoc {xs : List F3} {x : F3} (h : OkF xs) (hx : SmI x.1 ∧ SmI x.2.1 ∧ SmI x.2.2) : OkF (xs ++ [x]) := fun z hz => by
  rcases List.mem_append.mp hz with hz | hz
  · exact h z hz
  · rw [List.mem_singleton.mp hz]; exact hx
@[irreducible] noncomputable def sp__law_drawn_paper : Sp := fun vs H Q _ => ∃ (a : Addr) (b : Int), vs = [.ref a] ∧ LeftAt H a b ∧ b ≤ 10000 ∧ ∀ p st tb rs xss qs nss H', Chg a H H' → LeftAt H' a (b + 5000) → PpX (rm a H') p st tb rs xss qs nss → PxB xss nss → Q (.ref p) H'
theorem drawn_paper_rd {H : Hp} {a : Addr} {b : Int} {Q : VK} {E : XK} (hL : LeftAt H a b) (hb : b ≤ 10000) (q : ∀ p st tb rs xss qs nss H', Chg a H H' → LeftAt H' a (b + 5000) → PpX (rm a H') p st tb rs xss qs nss → PxB xss nss → Q (.ref p) H') : sp__law_drawn_paper [.ref a] H Q E := by
  unfold sp__law_drawn_paper; exact ⟨a, b, rfl, hL, hb, q⟩
set_option maxHeartbeats 0 in
theorem ok__law_drawn_paper {f : Addr} {fd : FuncData} (F : Fun K "_law_drawn_paper" "_law_drawn_paper" s__law_drawn_paper f fd) (N : Nm mg) (D__law_draw : Def P w K mg base CX0 2 "_law_draw" ["_law_left", "_law_base"] sp__law_draw) : FnOk P w K mg base CX0 3 f fd ["_law_left"] sp__law_drawn_paper := by
  refine F.ok sc__law_drawn_paper (fun vs H Q E h => by unfold sp__law_drawn_paper at h; obtain ⟨_, _, rfl, _⟩ := h; rfl) (fun cdv A outer s H vs Q E hr h => ?_)
  unfold sp__law_drawn_paper at h
  obtain ⟨a, b, rfl, hL, hb, q⟩ := h
  have hu := hu40 hr
  refine ⟨_, (pss_cons (psS (i := 1) sc__law_drawn_paper.nd (pe_op oPow pe_int pe_int))
      (pss_cons (psS (i := 2) sc__law_drawn_paper.nd (peLst pa_nil))
      (pss_cons (psFor PassesOwn.never rfl (piRng1 N.range_ (pa_cons (pe_op oAdd pe_int (pD D__law_draw hr pass0 (pa_cons (pq 0) (pa_cons pe_int pa_nil)))) pa_nil)) (pg_name (i := 3) sc__law_drawn_paper.nd rfl (by first | exact Or.inl rfl | exact Or.inr rfl)) (pss_cons (psS (i := 4) sc__law_drawn_paper.nd (peLst pa_nil))
      (pss_cons (psFor PassesOwn.never rfl (piRng1 N.range_ (pa_cons (pe_op oAdd pe_int (pD D__law_draw hr pass0 (pa_cons (pq 0) (pa_cons pe_int pa_nil)))) pa_nil)) (pg_name (i := 5) sc__law_drawn_paper.nd rfl (by first | exact Or.inl rfl | exact Or.inr rfl)) (pss_cons (psS (i := 6) sc__law_drawn_paper.nd (peIxK (K := K) rfl (peLst (pa_cons (pD D__law_draw hr pass0 (pa_cons (pq 0) (pa_cons pe_int pa_nil))) (pa_cons (pe_op oSub (pD D__law_draw hr pass0 (pa_cons (pq 0) (pa_cons (pe_op oMul pe_int (pq 1)) pa_nil))) (pq 1)) pa_nil))) (pe_op oDiv (pD D__law_draw hr pass0 (pa_cons (pq 0) (pa_cons pe_int pa_nil))) pe_int)))
      (pss_cons (psS (i := 7) sc__law_drawn_paper.nd (peIxK (K := K) rfl (peLst (pa_cons (pe_op oAdd pe_int (pD D__law_draw hr pass0 (pa_cons (pq 0) (pa_cons pe_int pa_nil)))) (pa_cons (pe_op oSub (pD D__law_draw hr pass0 (pa_cons (pq 0) (pa_cons (pe_op oMul pe_int (pq 1)) pa_nil))) (pq 1)) pa_nil))) (pe_op oDiv (pD D__law_draw hr pass0 (pa_cons (pq 0) (pa_cons pe_int pa_nil))) pe_int)))
      (pss_one (ps_expr (peM_append (pq 4) (pa_cons (peTup (pa_cons (pq 6) (pa_cons (pD D__law_draw hr pass0 (pa_cons (pq 0) (pa_cons pe_int pa_nil))) (pa_cons (pq 7) pa_nil)))) pa_nil)))))))
      (pss_one (ps_expr (peM_append (pq 2) (pa_cons (pq 4) pa_nil)))))))
      (pss_cons (psS (i := 8) sc__law_drawn_paper.nd (peLst pa_nil))
      (pss_cons (psS (i := 9) sc__law_drawn_paper.nd (pe_op oAdd pe_int (pD D__law_draw hr pass0 (pa_cons (pq 0) (pa_cons pe_int pa_nil)))))
      (pss_cons (psFor PassesOwn.never rfl (piRng1 N.range_ (pa_cons (pe_op oAdd pe_int (pD D__law_draw hr pass0 (pa_cons (pq 0) (pa_cons pe_int pa_nil)))) pa_nil)) (pg_name (i := 3) sc__law_drawn_paper.nd rfl (by first | exact Or.inl rfl | exact Or.inr rfl)) (pss_cons (psS (i := 10) sc__law_drawn_paper.nd (peIxK (K := K) rfl (peLst (pa_cons pe_int (pa_cons (pq 1) pa_nil))) (pD D__law_draw hr pass0 (pa_cons (pq 0) (pa_cons pe_int pa_nil)))))
      (pss_one (ps_expr (peM_append (pq 8) (pa_cons (peComp (N := ["_law_count", "_law_left", "_law_near"]) (ks := [none, some 0, some 10]) (piRng1 N.range_ (pa_cons (peIxK (K := K) rfl (peLst (pa_cons (pq 9) (pa_cons pe_int pa_nil))) (pe_op oDiv (pD D__law_draw hr pass0 (pa_cons (pq 0) (pa_cons pe_int pa_nil))) pe_int)) pa_nil)) (fun cl C s3 H3 fp => (pg_name (i := 0) nb_8 rfl (by first | exact Or.inl rfl | exact Or.inr rfl))) (fun cl C s3 H3 fp => pts_nil) (fun cl C s3 H3 fp => (pe_op oSub (pD D__law_draw hr pass0 (pa_cons (pq 1) (pa_cons (pe_op oMul pe_int (pq 2)) pa_nil))) (pq 2))) (.skip (.take rfl rfl (by first | exact Or.inl rfl | exact Or.inr rfl) (.take rfl rfl (by first | exact Or.inl rfl | exact Or.inr rfl) .nil)))) pa_nil))))))
      (pss_one (ps_ret (peTup (pa_cons (pq 2) (pa_cons (pq 8) pa_nil))))))))))), ?_⟩
  obtain ⟨far, e29⟩ : ∃ z : Int, (10 : Int) ^ (29 : Int).toNat = z := ⟨_, rfl⟩
  have far0 : far = 100000000000000000000000000000 := by rw [← e29]; rfl
  walk_at "wh"
  refine pow_lit ⟨by decide, by decide, by decide⟩ e29 ?_
  refine newL_rd (fun l H1 g1 s1 k1 => ?_)
  have nl : l ≠ a := hL.ne g1
  refine draw_rd (hL.same s1) (by walk_at "om") (by walk_at "om") (by walk_at "om") (fun d H2 d0 d1 c2 L2 => ?_)
  obtain ⟨f, ef⟩ : ∃ n : Nat, 1 + d = (n : Int) := ⟨(1 + d).toNat, by walk_at "om"⟩
  walk_at "wh"
  rw [ef]
  refine range_rd (by decide) (by decide) (by walk_at "om") (by walk_at "om") ?_
  rw [show ((f : Int) - 0).toNat = f by walk_at "om"]
  have c02 : Chg a H H2 := fun b' o z e => c2 _ _ z (s1 _ _ e)
  refine loop_range (fun i σ I => ∃ (x3 x4 x5 x6 x7 x8 x9 x10 : Option V) (rs : List (Addr × List Addr)) (xss : List (List F3)), σ = [some (.ref a), some (.int far), some (.ref l), x3, x4, x5, x6, x7, x8, x9, x10] ∧ Chg a H I ∧ LeftAt I a (b + 10 + 200 * i) ∧ StO I a l rs xss ∧ xss.length = i ∧ (∀ xs ∈ xss, 1 ≤ xs.length ∧ xs.length ≤ 20) ∧ ∀ xs ∈ xss, OkF xs) ?_ ?_ ?_
  · exact ⟨_, _, _, _, _, _, _, _, [], [], rfl, c02, L2.up (by walk_at "om"), ⟨c2 _ _ nl k1, rfl, fun i r xs e => by simp at e⟩, rfl, fun _ h => (by cases h), fun _ h => (by cases h)⟩
  · rintro i σ I hi ⟨x3, x4, x5, x6, x7, x8, x9, x10, rs, xss, rfl, cI, LI, SI, il, b1, b2⟩
    refine newL_rd (fun w I1 f1 s3 k3 => ?_)
    have nw : w ≠ a := LI.ne f1
    have nwl : w ≠ l := Ne.symm (ne_of_none SI.out f1)
    refine draw_rd (LI.same s3) (by walk_at "om") (by walk_at "om") (by walk_at "om") (fun e I2 e0 e1 c4 L4 => ?_)
    obtain ⟨g, eg⟩ : ∃ n : Nat, 1 + e = (n : Int) := ⟨(1 + e).toNat, by walk_at "om"⟩
    walk_at "wh"
    rw [eg]
    refine range_rd (by decide) (by decide) (by walk_at "om") (by walk_at "om") ?_
    rw [show ((g : Int) - 0).toNat = g by walk_at "om"]
    refine loop_range (fun j σ J => ∃ (x3 x5 x6 x7 x8 x9 x10 : Option V) (bs : List Addr) (xs : List F3), σ = [some (.ref a), some (.int far), some (.ref l), x3, some (.ref w), x5, x6, x7, x8, x9, x10] ∧ Chg a I J ∧ LeftAt J a (b + 20 + 200 * i + 40 * j) ∧ RwX J w bs xs ∧ xs.length = j ∧ OkF xs) ?_ ?_ ?_
    · exact ⟨_, _, _, _, _, _, _, [], [], rfl, fun b' o z y => c4 _ _ z (s3 _ _ y), L4.up (by walk_at "om"), ⟨c4 _ _ nw k3, rfl, fun i r xs e => by simp at e⟩, rfl, fun _ h => (by cases h)⟩
    · rintro j σ J hj ⟨x3, x5, x6, x7, x8, x9, x10, bs, xs, rfl, cJ, LJ, RJ, jl, ok⟩
      have kl := cJ _ _ nl SI.out
      refine draw_rd LJ (by walk_at "om") (by walk_at "om") (by walk_at "om") (fun u1 J1 u10 u11 d1 M1 => ?_)
      walk_at "st"
      refine draw_rd M1 (by walk_at "om") (by walk_at "om") (by walk_at "om") (fun u2 J2 u20 u21 d2 M2 => ?_)
      refine newL_rd (fun p1 K1 g1q sq1 hq1 => ?_)
      refine draw_rd (M2.same sq1) (by walk_at "om") (by walk_at "om") (by walk_at "om") (fun v1 J3 v10 v11 e1c M3 => ?_)
      have hc1 := e1c _ _ (M2.ne g1q) hq1
      walk_at "st"
      refine ixAny_rd hc1 (by walk_at "om") (by simp only [List.length_cons, List.length_nil]; omega) ?_
      intro v hv
      obtain ⟨n1, rfl, bn1⟩ : ∃ m : Int, v = .int m ∧ SmI m := by
        simp only [List.mem_cons, List.not_mem_nil, or_false] at hv
        rcases hv with rfl | rfl <;> exact ⟨_, rfl, by walk_at "om", by walk_at "om"⟩
      clear hv hc1 hq1
      refine draw_rd M3 (by walk_at "om") (by walk_at "om") (by walk_at "om") (fun u3 J4 u30 u31 d4 M4 => ?_)
      walk_at "st"
      refine draw_rd M4 (by walk_at "om") (by walk_at "om") (by walk_at "om") (fun u4 J5 u40 u41 d5 M5 => ?_)
      refine newL_rd (fun p2 K2 g2q sq2 hq2 => ?_)
      refine draw_rd (M5.same sq2) (by walk_at "om") (by walk_at "om") (by walk_at "om") (fun v2 J6 v20 v21 e2c M6 => ?_)
      have hc2 := e2c _ _ (M5.ne g2q) hq2
      walk_at "st"
      refine ixAny_rd hc2 (by walk_at "om") (by simp only [List.length_cons, List.length_nil]; omega) ?_
      intro v hv
      obtain ⟨n2, rfl, bn2⟩ : ∃ m : Int, v = .int m ∧ SmI m := by
        simp only [List.mem_cons, List.not_mem_nil, or_false] at hv
        rcases hv with rfl | rfl <;> exact ⟨_, rfl, by walk_at "om", by walk_at "om"⟩
      clear hv hc2 hq2
      have c0 : Chg a J J6 := fun b' o z y => e2c _ _ z (sq2 _ _ (d5 _ _ z (d4 _ _ z (e1c _ _ z (sq1 _ _ (d2 _ _ z (d1 _ _ z y)))))))
      have R6 := RJ.chgA nw LJ c0
      refine lst_is R6.out ?_
      refine draw_rd M6 (by walk_at "om") (by walk_at "om") (by walk_at "om") (fun u5 J7 u50 u51 d7 M7 => ?_)
      have R7 := R6.chgA nw M6 d7
      refine newT_rd (fun pt J8 g8 s8 h8 => ?_)
      have R8 := R7.same s8
      have bl := R8.len
      refine app_rd R8.out (by rw [List.length_map, sizeLine_eq]; omega) (fun J9 d9 k9 => ?_)
      have npt : pt ≠ w := Ne.symm (ne_of_none R7.out g8)
      walk_at "wh"
      exact ⟨_, _, _, _, _, _, _, bs ++ [pt], xs ++ [(n1, u5, n2)], rfl, fun b' o z y => d9 _ _ (ne_of_none y f1) (s8 _ _ (d7 _ _ z (c0 _ _ z (cJ _ _ z y)))), ((M7.same s8).chg d9 (Ne.symm nw)).up (by walk_at "om"), R8.push d9 k9 (d9 _ _ npt h8), by rw [List.length_append, jl]; rfl, okF_snoc ok ⟨bn1, ⟨by show -(10 ^ 50) ≤ u5; omega, by show u5 ≤ 10 ^ 50; omega⟩, bn2⟩⟩
    · rintro σ J ⟨x3, x5, x6, x7, x8, x9, x10, bs, xs, rfl, cJ, LJ, RJ, jl, ok⟩
      have SJ := SI.chg nl cJ
      refine lst_is SJ.out ?_
      walk_at "wh"
      have rl := SJ.len
      refine app_rd SJ.out (by rw [List.length_map, sizeLine_eq]; omega) (fun J2 d2 k2 => ?_)
      walk_at "wh"
      refine ⟨_, _, _, _, _, _, _, _, rs ++ [(w, bs)], xss ++ [xs], rfl, fun b' o z y => d2 _ _ (ne_of_none y g1) (cJ _ _ z (cI _ _ z y)), (LJ.chg d2 (Ne.symm nl)).up (by walk_at "om"), SJ.push d2 k2 (RJ.rm2 nw nwl LJ SJ.out), by rw [List.length_append, il]; rfl, fun ys hy => ?_, fun ys hy => ?_⟩
      · rcases List.mem_append.mp hy with hy | hy
        · exact b1 ys hy
        · rw [List.mem_singleton.mp hy]; omega
      · rcases List.mem_append.mp hy with hy | hy
        · exact b2 ys hy
        · rw [List.mem_singleton.mp hy]; exact ok
  · rintro σ I ⟨x3, x4, x5, x6, x7, x8, x9, x10, rs, xss, rfl, cI, LI, SI, il, b1, b2⟩
    refine newL_rd (fun tb I1 f1 s3 k3 => ?_)
    have nt : tb ≠ a := LI.ne f1
    have S1 := SI.same s3
    refine draw_rd (LI.same s3) (by walk_at "om") (by walk_at "om") (by walk_at "om") (fun e I2 e0 e1 c4 L4 => ?_)
    obtain ⟨wd, ewd⟩ : ∃ n : Nat, 1 + e = (n : Int) := ⟨(1 + e).toNat, by walk_at "om"⟩
    walk_at "wh"
    rw [ewd]
    refine draw_rd L4 (by walk_at "om") (by walk_at "om") (by walk_at "om") (fun e2 I3 e20 e21 c5 L5 => ?_)
    obtain ⟨g, eg⟩ : ∃ n : Nat, 1 + e2 = (n : Int) := ⟨(1 + e2).toNat, by walk_at "om"⟩
    walk_at "wh"
    rw [eg]
    refine range_rd (by decide) (by decide) (by walk_at "om") (by walk_at "om") ?_
    rw [show ((g : Int) - 0).toNat = g by walk_at "om"]
    have cI3 : Chg a I I3 := fun b' o z y => c5 _ _ z (c4 _ _ z (s3 _ _ y))
    refine loop_range (fun j σ J => ∃ (x3 x4 x5 x6 x7 x10 : Option V) (qs : List Addr) (zs : List (List Int)), σ = [some (.ref a), some (.int far), some (.ref l), x3, x4, x5, x6, x7, some (.ref tb), some (.int wd), x10] ∧ Chg a I J ∧ LeftAt J a (b + 1200 + 100 * j) ∧ J tb = some (.lst (qs.map V.ref)) ∧ qs.length = j ∧ zs.length = j ∧ ∀ (k : Nat) q z, qs[k]? = some q → zs[k]? = some z → q ≠ a ∧ q ≠ tb ∧ J q = some (.lst (z.map V.int)) ∧ (1 ≤ z.length ∧ z.length ≤ 20) ∧ ∀ v ∈ z, -(10 ^ 50) ≤ v ∧ v ≤ 10 ^ 50) ?_ ?_ ?_
    · exact ⟨_, _, _, _, _, _, [], [], rfl, cI3, L5.up (by walk_at "om"), c5 _ _ nt (c4 _ _ nt k3), rfl, rfl, fun k q z y => by simp at y⟩
    · rintro j σ J hj ⟨x3, x4, x5, x6, x7, x10, qs, zs, rfl, cJ, LJ, kt, ql, zl, pr⟩
      refine newL_rd (fun p1 J1 g1' sq1 hq1 => ?_)
      refine draw_rd (LJ.same sq1) (by walk_at "om") (by walk_at "om") (by walk_at "om") (fun u1 J2 u10 u11 d2 M2 => ?_)
      have hc1 := d2 _ _ (LJ.ne g1') hq1
      refine ixAny_rd hc1 (by walk_at "om") (by simp only [List.length_cons, List.length_nil]; omega) ?_
      intro v hv
      obtain ⟨near, rfl, n0, n1⟩ : ∃ m : Int, v = .int m ∧ 10 ≤ m ∧ m ≤ far := by
        simp only [List.mem_cons, List.not_mem_nil, or_false] at hv
        rcases hv with rfl | rfl <;> exact ⟨_, rfl, by walk_at "om", by walk_at "om"⟩
      clear hv hc1 hq1
      refine lst_is (d2 _ _ nt (sq1 _ _ kt)) ?_
      refine newL_rd (fun p2 J3 g2' sq2 hq2 => ?_)
      refine draw_rd (M2.same sq2) (by walk_at "om") (by walk_at "om") (by walk_at "om") (fun u2 J4 u20 u21 d4 M4 => ?_)
      have hc2 := d4 _ _ (M2.ne g2') hq2
      walk_at "st"
      refine ixAny_rd hc2 (by walk_at "om") (by simp only [List.length_cons, List.length_nil]; omega) ?_
      intro v hv
      obtain ⟨c, rfl, n2, n3⟩ : ∃ m : Nat, v = .int m ∧ 1 ≤ m ∧ m ≤ 11 := by
        simp only [List.mem_cons, List.not_mem_nil, or_false] at hv
        rcases hv with rfl | rfl
        · exact ⟨wd, rfl, by walk_at "om", by walk_at "om"⟩
        · exact ⟨1, rfl, by walk_at "om", by walk_at "om"⟩
      clear hv hc2 hq2
      have c04 : Chg a J J4 := fun b' o z y => d4 _ _ z (sq2 _ _ (d2 _ _ z (sq1 _ _ y)))
      refine range_rd (by decide) (by decide) (by walk_at "om") (by walk_at "om") ?_
      rw [show ((c : Int) - 0).toNat = c by walk_at "om"]
      refine comp_rangeV (by rw [sizeLine_eq]; omega) (fun ac Ha fa sa ha => ?_)
      have na2 : ac ≠ a := M4.ne fa
      have kt4 := c04 _ _ nt kt
      have nta : tb ≠ ac := ne_of_none kt4 fa
      refine ⟨fun i ys σ Hb => ∃ (t : Option V) (z : List Int), σ = [t, some (.ref a), some (.int near)] ∧ ys = z.map V.int ∧ z.length = i ∧ (∀ v ∈ z, -(10 ^ 50) ≤ v ∧ v ≤ 10 ^ 50) ∧ LeftAt Hb a (b + 1220 + 100 * j + 4 * i) ∧ Chg2 a ac J4 Hb, ?_, ?_, ?_⟩
      · exact ⟨none, [], rfl, rfl, rfl, fun v hv => (by cases hv), (M4.same sa).up (by walk_at "om"), sa.to2⟩
      · rintro i m2 ys σ Hb hi hm2 hl2 hb2 ⟨t2, z, rfl, rfl, lz, bz, Lb, cb⟩
        refine br_T ?_
        walk_at "st"
        refine draw_rd Lb (by walk_at "om") (by walk_at "om") (by walk_at "om") (fun dd Hc dd0 dd1 cc Lc => ?_)
        refine cputV_rd hi hm2 hl2 (cc _ _ na2 hb2) (fun Hd cd hd => ?_)
        exact ⟨_, z ++ [dd - near], rfl, by rw [List.map_append]; rfl, by rw [List.length_append, lz]; rfl, fun v hv => by
          rcases List.mem_append.mp hv with hv | hv
          · exact bz v hv
          · rw [List.mem_singleton.mp hv]; omega, (Lc.chg cd (Ne.symm na2)).up (by walk_at "om"), (cb.trans cc.toL).trans cd.toR⟩
      · rintro ys σ Hb hb2 ⟨t2, z, rfl, rfl, lz, bz, Lb, cb⟩
        have ktb := cb _ _ nt nta kt4
        refine app_rd ktb (by rw [List.length_map, sizeLine_eq]; omega) (fun Hd cd hd => ?_)
        walk_at "wh"
        have up : ∀ b' o, b' ≠ a → b' ≠ tb → J b' = some o → Hd b' = some o := fun b' o z1 z2 y => cd _ _ z2 (cb _ _ z1 (ne_of_none (c04 _ _ z1 y) fa) (c04 _ _ z1 y))
        refine ⟨_, _, _, _, _, _, qs ++ [ac], zs ++ [z], rfl, fun b' o z y => up _ _ z (ne_of_none y f1) (cJ _ _ z y), (Lb.chg cd (Ne.symm nt)).up (by walk_at "om"), by rw [hd, List.map_append]; rfl, by rw [List.length_append, ql]; rfl, by rw [List.length_append, zl]; rfl, snoc_at (R := fun q z => q ≠ a ∧ q ≠ tb ∧ Hd q = some (.lst (z.map V.int)) ∧ (1 ≤ z.length ∧ z.length ≤ 20) ∧ ∀ v ∈ z, -(10 ^ 50) ≤ v ∧ v ≤ 10 ^ 50) (by walk_at "om") (fun k q' z' y1 y2 => ?_) ⟨na2, Ne.symm nta, cd _ _ (Ne.symm nta) hb2, by walk_at "om", bz⟩⟩
        obtain ⟨y1, y2, y3, y4⟩ := pr k q' z' y1 y2
        exact ⟨y1, y2, up _ _ y1 y2 y3, y4⟩
    · rintro σ J ⟨x3, x4, x5, x6, x7, x10, qs, zs, rfl, cJ, LJ, kt, ql, zl, pr⟩
      have SJ := SI.chg nl cJ
      have X : StX (rm a J) l rs xss := ⟨rm_at nl SJ.out, SJ.len, fun i r xs y1 y2 => (SJ.row i r xs y1 y2).same (rm_same _ _)⟩
      have T : TbX (rm a J) tb qs zs := ⟨rm_at nt kt, by walk_at "om", fun i q' z' y1 y2 => rm_at (pr i q' z' y1 y2).1 (pr i q' z' y1 y2).2.2.1⟩
      have zb : ∀ z ∈ zs, (1 ≤ z.length ∧ z.length ≤ 20) ∧ ∀ v ∈ z, SmI v := fun z hz => by
        obtain ⟨i, hi, rfl⟩ := List.getElem_of_mem hz
        obtain ⟨y1, y2, y3, y4⟩ := pr i (qs[i]'(by walk_at "om")) _ (List.getElem?_eq_getElem (by walk_at "om")) (List.getElem?_eq_getElem hi)
        exact y4
      refine newT_rd (fun pp Hc fc sc hc => ?_)
      walk_at "wh"
      exact q pp l tb rs xss qs zs Hc (fun b' o z y => sc _ _ (cJ _ _ z (cI _ _ z y))) ((LJ.same sc).up (by walk_at "om")) ⟨rm_at (LJ.ne fc) hc, X.same (Same.rm sc), T.same (Same.rm sc)⟩ ⟨by walk_at "om", b1, b2, by walk_at "om", fun z hz => (zb z hz).1, fun z hz => (zb z hz).2⟩
-- @@split
/-! ### papers as data, and their marks -/
noncomputable def datF (z : F3) : PyData := .tuple [.int z.1, .int z.2.1, .int z.2.2]
noncomputable def rowX (xs : List F3) : PyData := .list (xs.map datF)
noncomputable def numX (ns : List Int) : PyData := .list (ns.map PyData.int)
noncomputable def papX (xss : List (List F3)) (nss : List (List Int)) : PyData := .tuple [.list (xss.map rowX), .list (nss.map numX)]
theorem sh_map {H : Hp} {α β : Type} {g : α → V} {h : β → PyData} {as : List α} {bs : List β} (l : as.length = bs.length) (k : ∀ (i : Nat) a b, as[i]? = some a → bs[i]? = some b → ShV H (g a) (h b)) : ShL H (as.map g) (bs.map h) :=
  ShL.idx (by rw [List.length_map, List.length_map, l]) fun i x d e1 e2 => by
    rw [List.getElem?_map] at e1 e2
    obtain ⟨a, ea, rfl⟩ := Option.map_eq_some_iff.mp e1
    obtain ⟨b, eb, rfl⟩ := Option.map_eq_some_iff.mp e2
    exact k i a b ea eb
theorem RwX.sh {H : Hp} {p : Addr} {bs : List Addr} {xs : List F3} (R : RwX H p bs xs) : ShV H (.ref p) (rowX xs) := .lst R.out (sh_map R.len fun i b x e1 e2 => .tup (R.row i b x e1 e2) (.cons (.int _) (.cons (.int _) (.cons (.int _) .nil))))
theorem PpX.sh {H : Hp} {p st tb : Addr} {rs : List (Addr × List Addr)} {xss : List (List F3)} {qs : List Addr} {nss : List (List Int)} (A : PpX H p st tb rs xss qs nss) : ShV H (.ref p) (papX xss nss) :=
  .tup A.out (.cons (.lst A.stm.out (sh_map A.stm.len fun i r xs e1 e2 => (A.stm.row i r xs e1 e2).sh)) (.cons (.lst A.tab.out (sh_map A.tab.len fun i q ns e1 e2 => .lst (A.tab.row i q ns e1 e2) (sh_map rfl fun j a b f1 f2 => by rw [f1] at f2; cases f2; exact .int _))) .nil))
theorem okD_int (i : Int) (n : Nat) : okD n (.int i) := ⟨rfl, rfl, Nat.zero_le _⟩
theorem papX_ok {xss : List (List F3)} {nss : List (List Int)} (B : PxB xss nss) : okD 5 (papX xss nss) ∧ PlD 5 (papX xss nss) := by
  have f1 := B.fl
  have t1 := B.tl
  refine ⟨okD.tuple (by show 2 ≤ 1000; decide) fun d hd => ?_, .tup fun d hd => ?_⟩
  · simp only [List.mem_cons, List.not_mem_nil, or_false] at hd
    rcases hd with rfl | rfl
    · refine okD.list (by rw [List.length_map]; omega) fun d hd => ?_
      obtain ⟨xs, hx, rfl⟩ := List.mem_map.mp hd
      refine okD.list (by rw [List.length_map]; have := (B.rl xs hx).2; omega) fun d hd => ?_
      obtain ⟨z, _, rfl⟩ := List.mem_map.mp hd
      refine okD.tuple (by show 3 ≤ 1000; decide) fun d hd => ?_
      simp only [List.mem_cons, List.not_mem_nil, or_false] at hd
      rcases hd with rfl | rfl | rfl <;> exact okD_int _ _
    · refine okD.list (by rw [List.length_map]; omega) fun d hd => ?_
      obtain ⟨ns, hx, rfl⟩ := List.mem_map.mp hd
      refine okD.list (by rw [List.length_map]; have := (B.nl ns hx).2; omega) fun d hd => ?_
      obtain ⟨z, _, rfl⟩ := List.mem_map.mp hd
      exact okD_int _ _
  · simp only [List.mem_cons, List.not_mem_nil, or_false] at hd
    rcases hd with rfl | rfl
    · refine .lst fun d hd => ?_
      obtain ⟨xs, hx, rfl⟩ := List.mem_map.mp hd
      refine .lst fun d hd => ?_
      obtain ⟨z, _, rfl⟩ := List.mem_map.mp hd
      refine .tup fun d hd => ?_
      simp only [List.mem_cons, List.not_mem_nil, or_false] at hd
      rcases hd with rfl | rfl | rfl <;> exact .int
    · refine .lst fun d hd => ?_
      obtain ⟨ns, hx, rfl⟩ := List.mem_map.mp hd
      refine .lst fun d hd => ?_
      obtain ⟨z, _, rfl⟩ := List.mem_map.mp hd
      exact .int
theorem flat_rep (n : Nat) : (List.replicate n ([] : List Addr)).flatten = [] := by
  induction n with
  | zero => rfl
  | succ n ih => rw [List.replicate_succ, List.flatten_cons, ih]; rfl
theorem mk_tup0 {H : Hp} {n : Nat} {p : Addr} {xs : List V} (h : H p = some (.tup xs)) (z : xs.length ≤ 1000) (e : ∀ x ∈ xs, MkV H n x []) : MkV H (n + 1) (.ref p) [] := by
  have := MkV.tup (Bs := List.replicate xs.length []) h z List.length_replicate fun i x B e1 e2 => by
    rw [(List.mem_replicate.mp (List.mem_of_getElem? e2)).2]; exact e x (List.mem_of_getElem? e1)
  rwa [flat_rep] at this
theorem mk_lst0 {H : Hp} {n : Nat} {p : Addr} {xs : List V} (h : H p = some (.lst xs)) (z : xs.length ≤ 1000) (e : ∀ x ∈ xs, MkV H n x []) : MkV H (n + 1) (.ref p) [p] := by
  have := MkV.lst (Bs := List.replicate xs.length []) h z List.length_replicate fun i x B e1 e2 => by
    rw [(List.mem_replicate.mp (List.mem_of_getElem? e2)).2]; exact e x (List.mem_of_getElem? e1)
  rwa [flat_rep] at this
theorem flat_one {α : Type} {g : α → Addr} : ∀ xs : List α, (xs.map fun x => [g x]).flatten = xs.map g
  | [] => rfl
  | x :: r => by rw [List.map_cons, List.flatten_cons, flat_one r]; rfl
theorem PpX.mkv {H : Hp} {p st tb : Addr} {rs : List (Addr × List Addr)} {xss : List (List F3)} {qs : List Addr} {nss : List (List Int)} (A : PpX H p st tb rs xss qs nss) (B : PxB xss nss) : MkV H 5 (.ref p) ((st :: rs.map (·.1)) ++ (tb :: qs)) := by
  have f1 := B.fl
  have t1 := B.tl
  have sl := A.stm.len
  have tl := A.tab.len
  have m1 : MkV H 4 (.ref st) (st :: (rs.map fun r => [r.1]).flatten) := MkV.lst A.stm.out (by rw [List.length_map]; omega) (by rw [List.length_map, List.length_map]) fun i x C e1 e2 => by
    rw [List.getElem?_map] at e1 e2
    obtain ⟨r, er, rfl⟩ := Option.map_eq_some_iff.mp e1
    rw [er] at e2
    cases e2
    obtain ⟨xs, ex⟩ : ∃ xs, xss[i]? = some xs := ⟨_, List.getElem?_eq_getElem (by have := (List.getElem?_eq_some_iff.mp er).1; omega)⟩
    have R := A.stm.row i r xs er ex
    have xl := R.len
    refine mk_lst0 R.out (by rw [List.length_map]; have := (B.rl xs (List.mem_of_getElem? ex)).2; omega) fun y hy => ?_
    obtain ⟨b, hb, rfl⟩ := List.mem_map.mp hy
    obtain ⟨j, hj, rfl⟩ := List.getElem_of_mem hb
    refine mk_tup0 (R.row j _ _ (List.getElem?_eq_getElem hj) (List.getElem?_eq_getElem (by walk_at "om"))) (by show 3 ≤ 1000; decide) fun y hy => ?_
    simp only [List.mem_cons, List.not_mem_nil, or_false] at hy
    rcases hy with rfl | rfl | rfl <;> exact .flat rfl rfl
  have m2 : MkV H 4 (.ref tb) (tb :: (qs.map fun r => [r]).flatten) := MkV.lst A.tab.out (by rw [List.length_map]; omega) (by rw [List.length_map, List.length_map]) fun i x C e1 e2 => by
    rw [List.getElem?_map] at e1 e2
    obtain ⟨r, er, rfl⟩ := Option.map_eq_some_iff.mp e1
    rw [er] at e2
    cases e2
    obtain ⟨ns, ex⟩ : ∃ xs, nss[i]? = some xs := ⟨_, List.getElem?_eq_getElem (by have := (List.getElem?_eq_some_iff.mp er).1; omega)⟩
    refine mk_lst0 (A.tab.row i r ns er ex) (by rw [List.length_map]; have := (B.nl ns (List.mem_of_getElem? ex)).2; omega) fun y hy => ?_
    obtain ⟨b, hb, rfl⟩ := List.mem_map.mp hy
    exact .flat rfl rfl
  rw [flat_one] at m1
  rw [flat_one (g := fun q => q), List.map_id'] at m2
  have := MkV.tup (Bs := [st :: rs.map (·.1), tb :: qs]) A.out (by show 2 ≤ 1000; decide) rfl fun i x C e1 e2 => by
    match i, e1, e2 with
    | 0, e1, e2 => cases e1; cases e2; exact m1
    | 1, e1, e2 => cases e1; cases e2; exact m2
  rw [List.flatten_cons, List.flatten_cons, List.flatten_nil, List.append_nil] at this
  exact this
theorem between : (Str.ofString "flow 0 1 0 2\nflow 1 1 1 2\nnumber 0 0 5\nnumber 1 0 6\n") = papT [[(1, 0, 2)], [(1, 1, 2)]] [[5], [6]] := by decide +kernel
theorem betweenB : PxB [[(1, 0, 2)], [(1, 1, 2)]] [[5], [6]] := ⟨by decide, by decide, by unfold SmI; decide, by decide, by decide, by unfold SmI; decide⟩
-- @@split
/-! ### a paper written and read -/
theorem joined {rs : List Rw} (o : ∀ r ∈ rs, OkR r) (hl : rs.length ≤ 400) : ((rs.map fun r => rtext r ++ lineE).map (·.length)).sum + (rs.map fun r => rtext r ++ lineE).length * (0 : Nat) ≤ 16777216 := by
  have h := lens_le (xs := rs.map fun r => rtext r ++ lineE) (m := 20001) fun x hx => by
    obtain ⟨r, hr, rfl⟩ := List.mem_map.mp hx
    have := rtext_len (o r hr)
    show (rtext r ++ lineE).length ≤ 20001
    rw [app_len]
    show (rtext r).length + 1 ≤ 20001
    omega
  rw [List.length_map] at h ⊢
  have : rs.length * 20001 ≤ 400 * 20001 := Nat.mul_le_mul_right _ hl
  omega
theorem joinedV (rs : List Rw) : (((List.range (txV rs).length).filter fun _ => true).map fun j => V.str ((rs.map fun r => rtext r ++ lineE).getD j ⟨#[]⟩)) = (rs.map fun r => rtext r ++ lineE).map V.str := by
  rw [filter_T, txV_len]
  apply List.ext_getElem?
  intro i
  rw [List.getElem?_map, List.getElem?_map]
  by_cases hi : i < rs.length
  · rw [List.getElem?_range hi, List.getElem?_map, List.getElem?_eq_getElem hi]
    show some (V.str ((rs.map fun r => rtext r ++ lineE).getD i ⟨#[]⟩)) = _
    rw [List.getD_eq_getElem?_getD, List.getElem?_map, List.getElem?_eq_getElem hi]
    rfl
  · rw [List.getElem?_eq_none (by simpa using hi), List.getElem?_eq_none (by simpa using hi)]
    rfl
theorem PxB.okA {xss : List (List F3)} {nss : List (List Int)} (B : PxB xss nss) : (∀ r ∈ flowsR 0 xss ++ numsR 0 nss, OkR r) ∧ (flowsR 0 xss ++ numsR 0 nss).length ≤ 400 := by
  have l1 := flowsR_len (l := 20) 0 (xss := xss) fun xs hx => (B.rl xs hx).2
  have l2 := numsR_len (l := 20) 0 (nss := nss) fun xs hx => (B.nl xs hx).2
  have f1 := B.fl
  have t1 := B.tl
  exact ⟨fun r hr => (List.mem_append.mp hr).elim (B.okF r) (B.okN r), by rw [List.length_append]; omega⟩
theorem neV_rd {K : PySem.W.Frag} {i j : Nat} {σ : St} {H : Hp} {Q : VK} {x y : V} (hi : σ[i]? = some (some x)) (hj : σ[j]? = some (some y)) (h : rNeXM K x y H Q) : tOp (rNeXM K) (qV i) (qV j) σ H Q := by
  unfold tOp qV
  rw [hi]
  show (match σ[j]? with
    | some (some v) => rNeXM K x v H Q
    | _ => False)
  rw [hj]
  exact h
@[irreducible] noncomputable def sp__law_right : Sp := fun vs H Q _ => ∃ (p st tb : Addr) (rs : List (Addr × List Addr)) (xss : List (List F3)) (qs : List Addr) (nss : List (List Int)), vs = [.ref p] ∧ PpX H p st tb rs xss qs nss ∧ PxB xss nss ∧ ∀ H', Same H H' → Q (.bl true) H'
theorem right_rd {H : Hp} {p st tb : Addr} {rs : List (Addr × List Addr)} {xss : List (List F3)} {qs : List Addr} {nss : List (List Int)} {Q : VK} {E : XK} (A : PpX H p st tb rs xss qs nss) (B : PxB xss nss) (q : ∀ H', Same H H' → Q (.bl true) H') : sp__law_right [.ref p] H Q E := by
  unfold sp__law_right; exact ⟨p, st, tb, rs, xss, qs, nss, rfl, A, B, q⟩
set_option maxHeartbeats 0 in
theorem ok__law_right {f : Addr} {fd : FuncData} (F : Fun K "_law_right" "_law_right" s__law_right f fd) (N : Nm mg) (D__law_marked : Def P w K mg base CX0 7 "_law_marked" ["_law_thing"] sp__law_marked) (D__law_once : Def P w K mg base CX0 7 "_law_once" ["_law_thing"] sp__law_once) (D__law_plainly : Def P w K mg base CX0 7 "_law_plainly" ["_law_told"] sp__law_plainly) (D__law_rows_of : Def P w K mg base CX0 1 "_law_rows_of" ["_law_paper"] sp__law_rows_of) (D_paper_text : Def P w K mg base CX0 3 "paper_text" ["paper"] sp_paper_text) (D_read_paper : Def P w K mg base CX0 4 "read_paper" ["text"] sp_read_paper) : FnOk P w K mg base CX0 8 f fd ["_law_paper"] sp__law_right := by
  refine F.ok sc__law_right (fun vs H Q E h => by unfold sp__law_right at h; obtain ⟨_, _, _, _, _, _, _, rfl, _⟩ := h; rfl) (fun cdv A outer s H vs Q E hr h => ?_)
  unfold sp__law_right at h
  obtain ⟨p, st, tb, rs, xss, qs, nss, rfl, A', B, q⟩ := h
  have hu := hu40 hr
  have f1 := B.fl
  have t1 := B.tl
  have S := A'.stm
  have T := A'.tab
  have sl := S.len
  have tl := T.len
  obtain ⟨oA, lA⟩ := B.okA
  obtain ⟨od, pl⟩ := papX_ok B
  refine ⟨_, (pss_cons (psS (i := 1) sc__law_right.nd (peTup (pa_cons (peComp (N := ["_law_row"]) (ks := [none]) (piSeqK (K := K) rfl (peIxK (K := K) rfl (pq 0) pe_int)) (fun cl C s3 H3 fp => (pg_name (i := 0) nb_12 rfl (by first | exact Or.inl rfl | exact Or.inr rfl))) (fun cl C s3 H3 fp => pts_nil) (fun cl C s3 H3 fp => (pT (cListK (K := K) rfl) N.list_ bt_list (pa_cons (pq 0) pa_nil))) (.skip .nil)) (pa_cons (peComp (N := ["_law_row"]) (ks := [none]) (piSeqK (K := K) rfl (peIxK (K := K) rfl (pq 0) pe_int)) (fun cl C s3 H3 fp => (pg_name (i := 0) nb_12 rfl (by first | exact Or.inl rfl | exact Or.inr rfl))) (fun cl C s3 H3 fp => pts_nil) (fun cl C s3 H3 fp => (pT (cListK (K := K) rfl) N.list_ bt_list (pa_cons (pq 0) pa_nil))) (.skip .nil)) pa_nil))))
      (pss_cons (psS (i := 2) sc__law_right.nd (peM_join (K := K) rfl pe_str (pa_cons (peComp (N := ["_law_row"]) (ks := [none]) (piSeqK (K := K) rfl (pD D__law_rows_of hr pass0 (pa_cons (pq 0) pa_nil))) (fun cl C s3 H3 fp => (pg_name (i := 0) nb_12 rfl (by first | exact Or.inl rfl | exact Or.inr rfl))) (fun cl C s3 H3 fp => pts_nil) (fun cl C s3 H3 fp => (pe_op oAdd (pq 0) pe_str)) (.skip .nil)) pa_nil)))
      (pss_cons (psIf (ptW (pwOr (ptC (oNeXK (K := K) rfl (by exact hu)) (pD D_paper_text hr pass0 (pa_cons (pq 1) pa_nil)) (pq 2)) (pw_or1 (ptC (oNeXK (K := K) rfl (by exact hu)) (pq 1) (pq 0))))) (pss_one (ps_ret pe_bl)) pss_nil)
      (pss_cons (psFor PassesOwn.never rfl (piRng1 N.range_ (pa_cons pe_int pa_nil)) (pg_name (i := 3) sc__law_right.nd rfl (by first | exact Or.inl rfl | exact Or.inr rfl)) (pss_cons (psS (i := 4) sc__law_right.nd (pD D_read_paper hr pass0 (pa_cons (pq 2) pa_nil)))
      (pss_cons (ps_expr (pD D_read_paper hr pass0 (pa_cons pe_str pa_nil)))
      (pss_cons (psIf (ptW (pwOr (pt_not (ptV (pB (cIsiK (K := K) rfl) N.isinstance_ bt_isinstance (pa_cons (pq 4) (pa_cons (pTy N.tuple_ bt_tuple) pa_nil))))) (pwOr (ptC (oNeXK (K := K) rfl (by exact hu)) (pq 4) (pq 0)) (pw_or1 (pt_not (ptV (pD D__law_plainly hr pass0 (pa_cons (pq 4) pa_nil)))))))) (pss_one (ps_ret pe_bl)) pss_nil)
      (pss_cons (ps_expr (pD D__law_marked hr pass0 (pa_cons (pq 4) pa_nil)))
      (pss_one (psIf (pt_not (ptV (pD D__law_once hr pass0 (pa_cons (pq 4) pa_nil)))) (pss_one (ps_ret pe_bl)) pss_nil)))))))
      (pss_one (ps_ret pe_bl)))))), ?_⟩
  refine ixT_rd (v := .ref st) A'.out rfl ?_
  refine iterL_rd S.out ?_
  refine comp_F (n := (rs.map fun r => V.ref r.1).length) (Wk.list (SqL.of S.out)) (by rw [List.length_map, sizeLine_eq]; omega) (fun j => .lst ((rs.getD j (st, [])).2.map V.ref)) (fun j σ => ∃ t : Option V, σ = [t]) ⟨none, rfl⟩ ?_ ?_
  · rintro j x σ J R1 S1 hj sJ hx ⟨_, rfl⟩ kk
    rw [List.getElem?_map] at hx
    obtain ⟨r, er, rfl⟩ := Option.map_eq_some_iff.mp hx
    obtain ⟨xs, ex⟩ : ∃ z, xss[j]? = some z := ⟨_, List.getElem?_eq_getElem (by have := (List.getElem?_eq_some_iff.mp er).1; omega)⟩
    rw [show rs.getD j (st, []) = r by rw [List.getD_eq_getElem?_getD, er]; rfl] at kk
    refine br_T ?_
    refine listL_rd (SqL.of (sJ _ _ (S.row j r xs er ex).out)) (fun p2 I2 g2 s2 h2 => ?_)
    walk_at "wh"
    exact kk _ p2 I2 g2 s2 h2 ⟨_, rfl⟩
  intro t ts J1 FL
  rw [List.length_map] at FL
  have A1 := A'.same FL.same
  refine ixT_rd (v := .ref tb) A1.out rfl ?_
  refine iterL_rd A1.tab.out ?_
  refine comp_F (n := (qs.map V.ref).length) (Wk.list (SqL.of A1.tab.out)) (by rw [List.length_map, sizeLine_eq]; omega) (fun j => .lst ((nss.getD j []).map V.int)) (fun j σ => ∃ t : Option V, σ = [t]) ⟨none, rfl⟩ ?_ ?_
  · rintro j x σ J R1 S1 hj sJ hx ⟨_, rfl⟩ kk
    rw [List.getElem?_map] at hx
    obtain ⟨r, er, rfl⟩ := Option.map_eq_some_iff.mp hx
    obtain ⟨xs, ex⟩ : ∃ z, nss[j]? = some z := ⟨_, List.getElem?_eq_getElem (by have := (List.getElem?_eq_some_iff.mp er).1; omega)⟩
    rw [show nss.getD j [] = xs by rw [List.getD_eq_getElem?_getD, ex]; rfl] at kk
    refine br_T ?_
    refine listL_rd (SqL.of (sJ _ _ (A1.tab.row j r xs er ex))) (fun p2 I2 g2 s2 h2 => ?_)
    walk_at "wh"
    exact kk _ p2 I2 g2 s2 h2 ⟨_, rfl⟩
  intro t2 ts2 J2 FM
  rw [List.length_map] at FM
  have l1 := FL.len
  have l2 := FM.len
  refine newT_rd (fun hp J3 g3 s3 h3 => ?_)
  have A3 := (A1.same FM.same).same s3
  have T3 : PpX J3 hp t t2 (ts.zip (rs.map (·.2))) xss ts2 nss := by
    refine ⟨h3, ⟨?_, ?_, fun i r xs e1 e2 => ?_⟩, ⟨s3 _ _ FM.out, by walk_at "om", fun i q' ns e1 e2 => ?_⟩⟩
    · rw [s3 _ _ (FM.same _ _ FL.out), show (fun r : Addr × List Addr => V.ref r.1) = V.ref ∘ Prod.fst from rfl, ← List.map_map, List.map_fst_zip (by rw [List.length_map]; omega)]
    · rw [List.length_zip, List.length_map]; omega
    · obtain ⟨e3, e4⟩ := List.getElem?_zip_eq_some.mp e1
      rw [List.getElem?_map] at e4
      obtain ⟨r', er, e5⟩ := Option.map_eq_some_iff.mp e4
      have X := (S.row i r' xs er e2).same ((FL.same.trans FM.same).trans s3)
      have := (FL.row i r.1 e3).2
      rw [show rs.getD i (st, []) = r' by rw [List.getD_eq_getElem?_getD, er]; rfl] at this
      exact ⟨by rw [← e5]; exact s3 _ _ (FM.same _ _ this), by rw [← e5]; exact X.len, by rw [← e5]; exact X.row⟩
    · have := (FM.row i q' e1).2
      rw [show nss.getD i [] = ns by rw [List.getD_eq_getElem?_getD, e2]; rfl] at this
      exact s3 _ _ this
  refine rows_of_rd A3 B (fun la J4 g4 s4 h4 => ?_)
  refine iterL_rd h4 ?_
  refine comp_I (n := (txV (flowsR 0 xss ++ numsR 0 nss)).length) (Wk.list (SqL.of h4)) (by rw [txV_len, sizeLine_eq]; omega) (fun j => .str (((flowsR 0 xss ++ numsR 0 nss).map fun r => rtext r ++ lineE).getD j ⟨#[]⟩)) (fun _ => true) (fun j σ => ∃ t : Option V, σ = [t]) ⟨none, rfl⟩ ?_ ?_
  · rintro j x σ J R' S' hj sJ hx ⟨_, rfl⟩ kk _
    unfold txV at hx
    rw [List.getElem?_map] at hx
    obtain ⟨r, er, rfl⟩ := Option.map_eq_some_iff.mp hx
    have ln := rtext_len (oA r (List.mem_of_getElem? er))
    rw [show ((flowsR 0 xss ++ numsR 0 nss).map fun r => rtext r ++ lineE).getD j ⟨#[]⟩ = rtext r ++ lineE by rw [List.getD_eq_getElem?_getD, List.getElem?_map, er]; rfl] at kk
    refine br_T ?_
    walk_at "wh"
    refine ⟨by show (rtext r).length + 1 ≤ sizeLine; rw [sizeLine_eq]; omega, ?_⟩
    walk_at "wh"
    exact kk rfl _ _ (Same.refl _) ⟨_, rfl⟩
  intro la2 J5 g5 s5 h5
  rw [joinedV] at h5
  refine join_rd h5 (joined oA lA) ?_
  refine paper_text_rd ((T3.same s4).same s5) B (fun J6 s6 => ?_)
  walk_at "wh"
  rw [show Txt.join (Str.ofString "") ((flowsR 0 xss ++ numsR 0 nss).map fun r => rtext r ++ lineE) = papT xss nss from rfl, decide_eq_true (rfl : papT xss nss = papT xss nss)]
  refine br_F ?_
  have A6 := ((A3.same s4).same s5).same s6
  have T6 := ((T3.same s4).same s5).same s6
  have s06 : Same H J6 := ((((FL.same.trans FM.same).trans s3).trans s4).trans s5).trans s6
  refine neV_rd (x := .ref hp) (y := .ref p) rfl rfl (neS_rd T6.sh A6.sh od (by decide) ?_)
  refine br_F ?_
  refine range_rd (by decide) (by decide) (by decide) (by decide) ?_
  refine loop_range (fun i σ I => ∃ x3 x4 : Option V, σ = [some (.ref p), some (.ref hp), some (.str (papT xss nss)), x3, x4] ∧ Same H I) ?_ ?_ ?_
  · exact ⟨_, _, rfl, s06⟩
  · rintro i σ I hi ⟨x3, x4, rfl, sI⟩
    refine read_paper_rd B (fun p2 st2 tb2 rs2 qs2 I1 s1 N1 => ?_)
    walk_at "wh"
    rw [between]
    refine read_paper_rd betweenB (fun p3 st3 tb3 rs3 qs3 I2 s2 N2 => ?_)
    have P2 := N1.pap.same s2
    refine isiD_rd' P2.sh (.inr (.inr (.inr rfl))) ?_
    refine br_F ?_
    have sI2 := (sI.trans s1).trans s2
    conv => whnf
    refine eqS_rd P2.sh (A'.same sI2).sh od.2.1 od.2.1 (Nat.le_trans od.2.2 (by decide)) ?_
    rw [od.eqv]
    refine br_F ?_
    refine plainly_rd P2.sh od.1 pl (fun I3 s3' => ?_)
    refine br_F ?_
    have M3 := (P2.same s3').mkv B
    refine marked_rd M3 N1.nd (fun I4 d4 => ?_)
    refine once_rd M3 d4 (fun I5 s5' => ?_)
    refine br_F ?_
    walk_at "wh"
    exact ⟨_, _, rfl, fun b o z => s5' _ _ (d4.1 _ _ (fun hm => by have := N1.fr b hm; rw [sI _ _ z] at this; cases this) (s3' _ _ (sI2 _ _ z)))⟩
  · rintro σ I ⟨x3, x4, rfl, sI⟩
    walk_at "wh"
    exact q I sI
-- @@split
/-! ### papers written: the law -/
theorem TbX.rev {H H' : Hp} {p p' : Addr} {qs : List Addr} {nss : List (List Int)} (T : TbX H p qs nss) (s : ∀ q ∈ qs, ∀ o, H q = some o → H' q = some o) (h : H' p' = some (.lst (qs.map V.ref).reverse)) : TbX H' p' qs.reverse nss.reverse := by
  have l := T.len
  refine ⟨by rw [h, List.map_reverse], by rw [List.length_reverse, List.length_reverse, l], fun i q ns e1 e2 => ?_⟩
  have hi : i < qs.length := by have := (List.getElem?_eq_some_iff.mp e1).1; rwa [List.length_reverse] at this
  rw [List.getElem?_reverse hi] at e1
  rw [List.getElem?_reverse (by walk_at "om"), ← l] at e2
  exact s _ (List.mem_of_getElem? e1) _ (T.row _ q ns e1 e2)
theorem PxB.rev {xss : List (List F3)} {nss : List (List Int)} (B : PxB xss nss) : PxB xss nss.reverse :=
  ⟨B.fl, B.rl, B.rn, by rw [List.length_reverse]; exact B.tl, fun ns h => B.nl ns (List.mem_reverse.mp h), fun ns h => B.nn ns (List.mem_reverse.mp h)⟩
noncomputable def spLaw (K : PySem.W.Frag) : Sp := fun vs H Q _ => ∃ (a : Addr) (ns : List Int), vs = [.ref a] ∧ SqL K H a (ns.map V.int) ∧ ns.length ≤ 63 ∧ ∀ H', Q (.bl true) H'
theorem script_len20 {ns : List Int} (h : ns.length ≤ 63) : [V.int 3].length + (cutV (ns.map V.int) none (some 20)).length ≤ sizeLine := by
  rw [cut_takeV (by decide), List.length_take, List.length_map, sizeLine_eq, List.length_singleton]; omega
theorem script_int20 {ns : List Int} {i : Nat} {x : V} (h : ([V.int 3] ++ cutV (ns.map V.int) none (some 20))[i]? = some x) : ∃ z, x = .int z := by
  rw [cut_takeV (by decide)] at h
  rcases List.mem_append.mp (List.mem_of_getElem? h) with h | h
  · exact ⟨3, by simpa using h⟩
  · obtain ⟨z, _, rfl⟩ := List.mem_map.mp (List.mem_of_mem_take h)
    exact ⟨z, rfl⟩
set_option maxHeartbeats 0 in
theorem ok_law {f : Addr} {fd : FuncData} (F : Fun K "law" "law" s_law f fd) (N : Nm mg) (D__law_drawn_paper : Def P w K mg base CX0 3 "_law_drawn_paper" ["_law_left"] sp__law_drawn_paper) (D__law_formed : Def P w K mg base CX0 5 "_law_formed" ["_law_left"] sp__law_formed) (D__law_opened : Def P w K mg base CX0 1 "_law_opened" ["_law_cell"] sp__law_opened) (D__law_right : Def P w K mg base CX0 8 "_law_right" ["_law_paper"] sp__law_right) (D__law_rows_of : Def P w K mg base CX0 1 "_law_rows_of" ["_law_paper"] sp__law_rows_of) (D_paper_text : Def P w K mg base CX0 3 "paper_text" ["paper"] sp_paper_text) (D_read_paper : Def P w K mg base CX0 4 "read_paper" ["text"] sp_read_paper) : FnOk P w K mg base CX0 9 f fd ["_law_script"] (spLaw K) := by
  refine F.ok sc_law (fun vs H Q E h => by obtain ⟨n, k, rfl, _⟩ := h; rfl) (fun cdv A outer s H vs Q E hr h => ?_)
  obtain ⟨a, ns0, rfl, hS, hlen, k⟩ := h
  have hu := hu40 hr
  refine ⟨_, (pss_cons (psFor PassesOwn.never rfl (piSeqK (K := K) rfl (pe_op oAdd (peLst (pa_cons pe_int pa_nil)) (pe_slice (slZK (K := K) rfl) (pq 0) po_none (poSome pe_int)))) (pg_name (i := 1) sc_law.nd rfl (by first | exact Or.inl rfl | exact Or.inr rfl)) (pss_cons (psS (i := 2) sc_law.nd (pD D__law_opened hr pass0 (pa_cons (pq 1) pa_nil)))
      (pss_cons (psS (i := 3) sc_law.nd (pD D__law_formed hr pass0 (pa_cons (pq 2) pa_nil)))
      (pss_cons (psIf (pt_not (ptV (pD D__law_right hr pass0 (pa_cons (pq 3) pa_nil)))) (pss_one (ps_ret pe_bl)) pss_nil)
      (pss_cons (psS (i := 4) sc_law.nd (peTup (pa_cons (peComp (N := ["_law_row"]) (ks := [none]) (piSeqK (K := K) rfl (peIxK (K := K) rfl (pq 3) pe_int)) (fun cl C s3 H3 fp => (pg_name (i := 0) nb_13 rfl (by first | exact Or.inl rfl | exact Or.inr rfl))) (fun cl C s3 H3 fp => pts_nil) (fun cl C s3 H3 fp => (pT (cListK (K := K) rfl) N.list_ bt_list (pa_cons (pq 0) pa_nil))) (.skip .nil)) (pa_cons (peComp (N := ["_law_row"]) (ks := [none]) (piSeqK (K := K) rfl (peIxK (K := K) rfl (pq 3) pe_int)) (fun cl C s3 H3 fp => (pg_name (i := 0) nb_13 rfl (by first | exact Or.inl rfl | exact Or.inr rfl))) (fun cl C s3 H3 fp => pts_nil) (fun cl C s3 H3 fp => (pT (cListK (K := K) rfl) N.list_ bt_list (pa_cons (pq 0) pa_nil))) (.skip .nil)) pa_nil))))
      (pss_cons (ps_expr (pD D_paper_text hr pass0 (pa_cons (pq 4) pa_nil)))
      (pss_cons (ps_expr (peM_reverse (K := K) rfl (peIxK (K := K) rfl (pq 4) pe_int)))
      (pss_cons (psS (i := 5) sc_law.nd (peM_join (K := K) rfl pe_str (pa_cons (peComp (N := ["_law_row"]) (ks := [none]) (piSeqK (K := K) rfl (pD D__law_rows_of hr pass0 (pa_cons (peTup (pa_cons (peIxK (K := K) rfl (pq 3) pe_int) (pa_cons (peRv (K := K) rfl (peIxK (K := K) rfl (pq 3) pe_int)) pa_nil))) pa_nil))) (fun cl C s3 H3 fp => (pg_name (i := 0) nb_13 rfl (by first | exact Or.inl rfl | exact Or.inr rfl))) (fun cl C s3 H3 fp => pts_nil) (fun cl C s3 H3 fp => (pe_op oAdd (pq 0) pe_str)) (.skip .nil)) pa_nil)))
      (pss_cons (psIf (ptC (oNeXK (K := K) rfl (by exact hu)) (pD D_paper_text hr pass0 (pa_cons (pq 4) pa_nil)) (pq 5)) (pss_one (ps_ret pe_bl)) pss_nil)
      (pss_cons (psS (i := 6) sc_law.nd (pD D_read_paper hr pass0 (pa_cons (peM_join (K := K) rfl pe_str (pa_cons (peComp (N := ["_law_row"]) (ks := [none]) (piSeqK (K := K) rfl (pD D__law_rows_of hr pass0 (pa_cons (pD D__law_drawn_paper hr pass0 (pa_cons (pq 2) pa_nil)) pa_nil))) (fun cl C s3 H3 fp => (pg_name (i := 0) nb_13 rfl (by first | exact Or.inl rfl | exact Or.inr rfl))) (fun cl C s3 H3 fp => pts_nil) (fun cl C s3 H3 fp => (pe_op oAdd (pq 0) pe_str)) (.skip .nil)) pa_nil)) pa_nil)))
      (pss_one (psIf (pt_not (ptV (pD D__law_right hr pass0 (pa_cons (pq 6) pa_nil)))) (pss_one (ps_ret pe_bl)) pss_nil))))))))))))
      (pss_one (ps_ret pe_bl))), ?_⟩
  refine newL_rd (fun p1 H1 hf1 hs1 ha1 => ?_)
  refine slL_rd (hs1.seq hS) (fun p2 H2 hf2 hs2 ha2 => ?_)
  refine cat_rd (hs2 _ _ ha1) ha2 (script_len20 hlen) (fun p3 H3 hf3 hs3 ha3 => ?_)
  refine iterL_rd ha3 ?_
  refine loop_list (xs := [V.int 3] ++ cutV (ns0.map V.int) none (some 20)) (fun i σ H4 => ∃ x1 x2 x3 x4 x5 x6 : Option V, σ = [some (.ref a), x1, x2, x3, x4, x5, x6] ∧ Same H3 H4) ?_ ?_ ?_ ?_
  · exact ⟨_, _, _, _, _, _, rfl, Same.refl _⟩
  · rintro i σ H4 _ ⟨_, _, _, _, _, _, _, h⟩
    exact SqL.of (h _ _ ha3)
  · rintro i x σ H4 hi ⟨x1, x2, x3, x4, x5, x6, rfl, s4⟩
    obtain ⟨z, rfl⟩ := script_int20 hi
    refine opened_rd (fun pl H5 f5 s5 L5 => ?_)
    have fpl : H3 pl = none := s4.free f5
    have s35 : Same H3 H5 := s4.trans s5
    refine formed_rd L5 (by walk_at "om") (fun p st tb rs xss qs nss H6 c6 L6 P6 B => ?_)
    have s36 := s35.chg fpl c6
    have A6 := P6.same (rm_same pl H6)
    refine right_rd A6 B (fun H7 s7 => ?_)
    refine br_F ?_
    have A' := A6.same s7
    have f1 := B.fl
    have t1 := B.tl
    have S := A'.stm
    have T := A'.tab
    have sl := S.len
    have tl := T.len
    refine ixT_rd (v := .ref st) A'.out rfl ?_
    refine iterL_rd S.out ?_
    refine comp_F (n := (rs.map fun r => V.ref r.1).length) (Wk.list (SqL.of S.out)) (by rw [List.length_map, sizeLine_eq]; omega) (fun j => .lst ((rs.getD j (st, [])).2.map V.ref)) (fun j σ => ∃ t : Option V, σ = [t]) ⟨none, rfl⟩ ?_ ?_
    · rintro j x σ J R1 S1 hj sJ hx ⟨_, rfl⟩ kk
      rw [List.getElem?_map] at hx
      obtain ⟨r, er, rfl⟩ := Option.map_eq_some_iff.mp hx
      obtain ⟨xs, ex⟩ : ∃ z, xss[j]? = some z := ⟨_, List.getElem?_eq_getElem (by have := (List.getElem?_eq_some_iff.mp er).1; omega)⟩
      rw [show rs.getD j (st, []) = r by rw [List.getD_eq_getElem?_getD, er]; rfl] at kk
      refine br_T ?_
      refine listL_rd (SqL.of (sJ _ _ (S.row j r xs er ex).out)) (fun p2 I2 g2 s2 h2 => ?_)
      walk_at "wh"
      exact kk _ p2 I2 g2 s2 h2 ⟨_, rfl⟩
    intro t ts J1 FL
    rw [List.length_map] at FL
    have A1 := A'.same FL.same
    refine ixT_rd (v := .ref tb) A1.out rfl ?_
    refine iterL_rd A1.tab.out ?_
    refine comp_F (n := (qs.map V.ref).length) (Wk.list (SqL.of A1.tab.out)) (by rw [List.length_map, sizeLine_eq]; omega) (fun j => .lst ((nss.getD j []).map V.int)) (fun j σ => ∃ t : Option V, σ = [t]) ⟨none, rfl⟩ ?_ ?_
    · rintro j x σ J R1 S1 hj sJ hx ⟨_, rfl⟩ kk
      rw [List.getElem?_map] at hx
      obtain ⟨r, er, rfl⟩ := Option.map_eq_some_iff.mp hx
      obtain ⟨xs, ex⟩ : ∃ z, nss[j]? = some z := ⟨_, List.getElem?_eq_getElem (by have := (List.getElem?_eq_some_iff.mp er).1; omega)⟩
      rw [show nss.getD j [] = xs by rw [List.getD_eq_getElem?_getD, ex]; rfl] at kk
      refine br_T ?_
      refine listL_rd (SqL.of (sJ _ _ (A1.tab.row j r xs er ex))) (fun p2 I2 g2 s2 h2 => ?_)
      walk_at "wh"
      exact kk _ p2 I2 g2 s2 h2 ⟨_, rfl⟩
    intro t2 ts2 J2 FM
    rw [List.length_map] at FM
    have l1 := FL.len
    have l2 := FM.len
    refine newT_rd (fun hp J3 g3 s3 h3 => ?_)
    have A3 := (A1.same FM.same).same s3
    have T1 : StX J1 t (ts.zip (rs.map (·.2))) xss := by
      refine ⟨?_, ?_, fun i r xs e1 e2 => ?_⟩
      · rw [FL.out, show (fun r : Addr × List Addr => V.ref r.1) = V.ref ∘ Prod.fst from rfl, ← List.map_map, List.map_fst_zip (by rw [List.length_map]; omega)]
      · rw [List.length_zip, List.length_map]; omega
      · obtain ⟨e3, e4⟩ := List.getElem?_zip_eq_some.mp e1
        rw [List.getElem?_map] at e4
        obtain ⟨r', er, e5⟩ := Option.map_eq_some_iff.mp e4
        have X := (S.row i r' xs er e2).same FL.same
        have := (FL.row i r.1 e3).2
        rw [show rs.getD i (st, []) = r' by rw [List.getD_eq_getElem?_getD, er]; rfl] at this
        exact ⟨by rw [← e5]; exact this, by rw [← e5]; exact X.len, by rw [← e5]; exact X.row⟩
    have T2 : TbX J2 t2 ts2 nss := by
      refine ⟨FM.out, by walk_at "om", fun i q' ns e1 e2 => ?_⟩
      have := (FM.row i q' e1).2
      rw [show nss.getD i [] = ns by rw [List.getD_eq_getElem?_getD, e2]; rfl] at this
      exact this
    have nt2 : ∀ q ∈ ts2, q ≠ t2 := fun q hq e => FM.nin (e ▸ hq)
    refine paper_text_rd (xss := xss) (nss := nss) ⟨h3, (T1.same FM.same).same s3, T2.same s3⟩ B (fun J4 s4' => ?_)
    refine ixT_rd (v := .ref t2) (s4' _ _ h3) rfl ?_
    refine lst_is (s4' _ _ (s3 _ _ T2.out)) ?_
    refine rev_rd (s4' _ _ (s3 _ _ T2.out)) (fun J5 c5 h5 => ?_)
    have s15 : Same J1 J5 := fun b o zz => c5 _ _ (fun e => by have := FM.facc; rw [← e, zz] at this; cases this) (s4' _ _ (s3 _ _ (FM.same _ _ zz)))
    have hp5 : J5 hp = some (.tup [.ref t, .ref t2]) := c5 _ _ (fun e => by have := s3 _ _ T2.out; rw [← e, h3] at this; cases this) (s4' _ _ h3)
    have U5 : PpX J5 hp t t2 (ts.zip (rs.map (·.2))) xss ts2.reverse nss.reverse := ⟨hp5, T1.same s15, T2.rev (fun q hq o e => c5 _ _ (nt2 q hq) (s4' _ _ (s3 _ _ e))) h5⟩
    have A5 := A1.same s15
    have s65 : Same H6 J5 := (s7.trans FL.same).trans s15
    refine ixT_rd (v := .ref st) A5.out rfl ?_
    refine ixT_rd (v := .ref tb) A5.out rfl ?_
    refine rv_rd (SqL.of A5.tab.out) (fun lr J6 g6 s6 h6 => ?_)
    refine newT_rd (fun dp J7 g7 s7' h7 => ?_)
    have B' := B.rev
    have D7 : PpX J7 dp st lr rs xss qs.reverse nss.reverse := ⟨h7, (A5.stm.same s6).same s7', (A5.tab.rev (fun q _ o e => s6 _ _ e) h6).same s7'⟩
    walk_at "wh"
    obtain ⟨oA, lA⟩ := B'.okA
    refine rows_of_rd D7 B' (fun la J8 g8 s8 h8 => ?_)
    refine iterL_rd h8 ?_
    refine comp_I (n := (txV (flowsR 0 xss ++ numsR 0 nss.reverse)).length) (Wk.list (SqL.of h8)) (by rw [txV_len, sizeLine_eq]; omega) (fun j => .str (((flowsR 0 xss ++ numsR 0 nss.reverse).map fun r => rtext r ++ lineE).getD j ⟨#[]⟩)) (fun _ => true) (fun j σ => ∃ t : Option V, σ = [t]) ⟨none, rfl⟩ ?_ ?_
    · rintro j x σ J R' S' hj sJ hx ⟨_, rfl⟩ kk _
      unfold txV at hx
      rw [List.getElem?_map] at hx
      obtain ⟨r, er, rfl⟩ := Option.map_eq_some_iff.mp hx
      have ln := rtext_len (oA r (List.mem_of_getElem? er))
      rw [show ((flowsR 0 xss ++ numsR 0 nss.reverse).map fun r => rtext r ++ lineE).getD j ⟨#[]⟩ = rtext r ++ lineE by rw [List.getD_eq_getElem?_getD, List.getElem?_map, er]; rfl] at kk
      refine br_T ?_
      walk_at "wh"
      refine ⟨by show (rtext r).length + 1 ≤ sizeLine; rw [sizeLine_eq]; omega, ?_⟩
      walk_at "wh"
      exact kk rfl _ _ (Same.refl _) ⟨_, rfl⟩
    intro la2 J9 g9 s9 h9
    rw [joinedV] at h9
    refine join_rd h9 (joined oA lA) ?_
    have s59 := ((s6.trans s7').trans s8).trans s9
    refine paper_text_rd (U5.same s59) B' (fun K1 s10 => ?_)
    walk_at "wh"
    rw [show Txt.join (Str.ofString "") ((flowsR 0 xss ++ numsR 0 nss.reverse).map fun r => rtext r ++ lineE) = papT xss nss.reverse from rfl, decide_eq_true (rfl : papT xss nss.reverse = papT xss nss.reverse)]
    refine br_F ?_
    have s6k := (s65.trans s59).trans s10
    have fp6 := L6.is
    refine drawn_paper_rd (L6.same s6k) (by walk_at "om") (fun p' st' tb' rs' xss' qs' nss' K2 c11 L11 P11 D => ?_)
    have s3k := (s36.trans s6k).chg fpl c11
    obtain ⟨oB, lB⟩ := D.okA
    have A11 := P11.same (rm_same pl K2)
    refine rows_of_rd A11 D (fun lb K3 g12 s12 h12 => ?_)
    refine iterL_rd h12 ?_
    refine comp_I (n := (txV (flowsR 0 xss' ++ numsR 0 nss')).length) (Wk.list (SqL.of h12)) (by rw [txV_len, sizeLine_eq]; omega) (fun j => .str (((flowsR 0 xss' ++ numsR 0 nss').map fun r => rtext r ++ lineE).getD j ⟨#[]⟩)) (fun _ => true) (fun j σ => ∃ t : Option V, σ = [t]) ⟨none, rfl⟩ ?_ ?_
    · rintro j x σ J R' S' hj sJ hx ⟨_, rfl⟩ kk _
      unfold txV at hx
      rw [List.getElem?_map] at hx
      obtain ⟨r, er, rfl⟩ := Option.map_eq_some_iff.mp hx
      have ln := rtext_len (oB r (List.mem_of_getElem? er))
      rw [show ((flowsR 0 xss' ++ numsR 0 nss').map fun r => rtext r ++ lineE).getD j ⟨#[]⟩ = rtext r ++ lineE by rw [List.getD_eq_getElem?_getD, List.getElem?_map, er]; rfl] at kk
      refine br_T ?_
      walk_at "wh"
      refine ⟨by show (rtext r).length + 1 ≤ sizeLine; rw [sizeLine_eq]; omega, ?_⟩
      walk_at "wh"
      exact kk rfl _ _ (Same.refl _) ⟨_, rfl⟩
    intro lb2 K4 g13 s13 h13
    rw [joinedV] at h13
    refine join_rd h13 (joined oB lB) ?_
    walk_at "wh"
    rw [show Txt.join (Str.ofString "") ((flowsR 0 xss' ++ numsR 0 nss').map fun r => rtext r ++ lineE) = papT xss' nss' from rfl]
    refine read_paper_rd D (fun p'' st'' tb'' rs'' qs'' K5 s14 N14 => ?_)
    refine right_rd N14.pap D (fun K6 s15' => ?_)
    refine br_F ?_
    walk_at "wh"
    exact ⟨_, _, _, _, _, _, rfl, (((s3k.trans s12).trans s13).trans s14).trans s15'⟩
  · rintro σ H4 ⟨_, _, _, _, _, _, rfl, _⟩
    exact k H4
-- @@split
end
noncomputable abbrev FA (K : PySem.W.Frag) (x : Str) (st : Stmt) : Prop := ∃ (f : Addr) (od an : Option Addr) (sl : Array (Option Value)) (oc kV dc pm cd ct : Value), PySem.W.nsIn K mainGlobals x = some (some (.ref f)) ∧ K.lookup f = some ⟨oc, od, .func (PySem.W.fnOf x x (defArgs st) (defBody st) (defScope st) .none kV dc pm an cd ct), sl⟩ ∧ PySem.W.codeIn K cd x = true ∧ PySem.W.keepIn K (.ref f) = true
theorem FA.of {K : PySem.W.Frag} {x : Str} {st : Stmt} {f : Addr} {od an : Option Addr} {sl : Array (Option Value)} {oc kV dc pm cd ct : Value} (a : PySem.W.nsIn K mainGlobals x = some (some (.ref f))) (l : K.lookup f = some ⟨oc, od, .func (PySem.W.fnOf x x (defArgs st) (defBody st) (defScope st) .none kV dc pm an cd ct), sl⟩) (c : PySem.W.codeIn K cd x = true) (k : PySem.W.keepIn K (.ref f) = true) : FA K x st := ⟨_, _, _, _, _, _, _, _, _, _, a, l, c, k⟩
structure Ev (P : Program) (w : World) (K : PySem.W.Frag) (mg : Str → Option Value) (base h : Heap) : Prop where
  x : K.In h
  g : h.Ns mainGlobals mg
local macro_rules | `(tactic| walk_at "bd") => `(tactic| (intro _ _ _ _ _ _ us hl; rcases us with _ | ⟨_, _ | ⟨_, _ | ⟨_, _ | ⟨_, _ | ⟨_, _ | ⟨_, _ | ⟨_, _⟩⟩⟩⟩⟩⟩⟩ <;> first | rfl | exact Nat.noConfusion hl | cases hl))
section
variable {P : Program} {w : World} {K : PySem.W.Frag} {mg : Str → Option Value} {base h : Heap} {CX : CXT} {k : Nat} {x : Str} {ps : List Str} {sp : Sp} {st : Stmt}
theorem Ev.r (E : Ev P w K mg base h) (A : FA K x st) (ok : ∀ {f : Addr} {fd : FuncData}, Fun K x x st f fd → mg x = some (.ref f) → PySem.W.keepIn K (.ref f) = true → Binds K fd ps [] → FnOk P w K mg base CX k f fd ps sp) (b : ∀ (kV doc pm : Value) (an : Option Addr) (cdv ct : Value) (us : List Value), us.length = ps.length → bindArgs (PySem.W.fnOf x x (defArgs st) (defBody st) (defScope st) .none kV doc pm an cdv ct) ⟨us, []⟩ = pure (ps.zip us) := by walk_at "bd") : Def P w K mg base CX k x ps sp := by
  obtain ⟨f, od, an, sl, oc, kV, dc, pm, cd, ct, a, l, c, k⟩ := A
  have F := fun_mk (st := st) l c k
  have a := PySem.W.mg_of E.x E.g a
  exact ⟨⟨_, _, ok F a k (F.binds b), a, k, F.binds b⟩⟩
theorem Ev.d (E : Ev P w K mg base h) (A : FA K x st) (ok : ∀ {f : Addr} {fd : FuncData}, Fun K x x st f fd → FnOk P w K mg base CX k f fd ps sp) (b : ∀ (kV doc pm : Value) (an : Option Addr) (cdv ct : Value) (us : List Value), us.length = ps.length → bindArgs (PySem.W.fnOf x x (defArgs st) (defBody st) (defScope st) .none kV doc pm an cdv ct) ⟨us, []⟩ = pure (ps.zip us) := by walk_at "bd") : Def P w K mg base CX k x ps sp := E.r A (fun F _ _ _ => ok F) b
end
theorem all_mk {l : PySem.W.OpenLaw} {w : World} {K : PySem.W.Frag} {h : Heap} {mg : Str → Option Value} {fa : Addr} (X : K.In h) (G : h.Ns mainGlobals mg) (hfa : mg "law" = some (.ref fa))
    {tk_FIGURES : Tok} {tk_MOST_FIGURES : Tok} {a_WANTED ep_WANTED : Nat} {t0_WANTED u0_WANTED t1_WANTED u1_WANTED t2_WANTED u2_WANTED t3_WANTED u3_WANTED t4_WANTED u4_WANTED : Tok}
    (e_FIGURES : PySem.W.nsIn K mainGlobals "FIGURES" = some (some (.str "0123456789" tk_FIGURES)))
    (e_MOST_FIGURES : PySem.W.nsIn K mainGlobals "MOST_FIGURES" = some (some (.int 2000 tk_MOST_FIGURES)))
    (e_WANTED : PySem.W.nsIn K mainGlobals "WANTED" = some (some (.ref a_WANTED)))
    (l_WANTED : K.lookup a_WANTED = some { cls := .type "dict", data := .dict #[⟨PyData.keyHash w.params "hosts", .str "hosts" t0_WANTED, .int 2 u0_WANTED⟩, ⟨PyData.keyHash w.params "more", .str "more" t1_WANTED, .int 2 u1_WANTED⟩, ⟨PyData.keyHash w.params "lead", .str "lead" t2_WANTED, .int 2 u2_WANTED⟩, ⟨PyData.keyHash w.params "flow", .str "flow" t3_WANTED, .int 4 u3_WANTED⟩, ⟨PyData.keyHash w.params "number", .str "number" t4_WANTED, .int 3 u4_WANTED⟩] ep_WANTED })
    (r_WANTED : (a_WANTED == sysModules) = false)
    (A_0 : FA K "row_text" s_row_text)
    (A_1 : FA K "text_of" s_text_of)
    (A_2 : FA K "flow_rows" s_flow_rows)
    (A_3 : FA K "number_rows" s_number_rows)
    (A_4 : FA K "paper_text" s_paper_text)
    (A_5 : FA K "has_wanted" s_has_wanted)
    (A_6 : FA K "is_number" s_is_number)
    (A_7 : FA K "read_row" s_read_row)
    (A_8 : FA K "flow_stands" s_flow_stands)
    (A_9 : FA K "number_stands" s_number_stands)
    (A_10 : FA K "stands_in_paper" s_stands_in_paper)
    (A_11 : FA K "read_rows" s_read_rows)
    (A_12 : FA K "by_fields" s_by_fields)
    (A_13 : FA K "read_paper" s_read_paper)
    (A_14 : FA K "_law_stirred" s__law_stirred)
    (A_15 : FA K "_law_opened" s__law_opened)
    (A_16 : FA K "_law_draw" s__law_draw)
    (A_17 : FA K "_law_drawn_plan" s__law_drawn_plan)
    (A_18 : FA K "_law_drawn_mix" s__law_drawn_mix)
    (A_19 : FA K "_law_flowing" s__law_flowing)
    (A_20 : FA K "_law_drawn_paper" s__law_drawn_paper)
    (A_21 : FA K "_law_rows_of" s__law_rows_of)
    (A_22 : FA K "_law_plainly" s__law_plainly)
    (A_23 : FA K "_law_formed" s__law_formed)
    (A_24 : FA K "_law_marked" s__law_marked)
    (A_25 : FA K "_law_once" s__law_once)
    (A_26 : FA K "_law_right" s__law_right)
    (A_27 : FA K "law" s_law)
    (z_all : PySem.W.nsIn K mainGlobals "all" = some none)
    (z_bool : PySem.W.nsIn K mainGlobals "bool" = some none)
    (z_enumerate : PySem.W.nsIn K mainGlobals "enumerate" = some none)
    (z_int : PySem.W.nsIn K mainGlobals "int" = some none)
    (z_isinstance : PySem.W.nsIn K mainGlobals "isinstance" = some none)
    (z_len : PySem.W.nsIn K mainGlobals "len" = some none)
    (z_list : PySem.W.nsIn K mainGlobals "list" = some none)
    (z_range : PySem.W.nsIn K mainGlobals "range" = some none)
    (z_sorted : PySem.W.nsIn K mainGlobals "sorted" = some none)
    (z_str : PySem.W.nsIn K mainGlobals "str" = some none)
    (z_sum : PySem.W.nsIn K mainGlobals "sum" = some none)
    (z_tuple : PySem.W.nsIn K mainGlobals "tuple" = some none) :
    ∃ fd : FuncData, (∀ (s : Shared) (v : Value), BindsTo s fd ⟨[v], []⟩ [("_law_script", v)]) ∧ ∀ base : Heap, K.In base → base.Ns mainGlobals mg → FnOk l.prog w K mg base CX0 9 fa fd ["_law_script"] (spLaw K) := by
  obtain ⟨_, _, an, _, _, kV, dc, pm, cd, ct, aL, lL, cL, kL⟩ := A_27
  have e := hfa.symm.trans (PySem.W.mg_of X G aL)
  cases e
  have N : Nm mg := ⟨PySem.W.mg_none_of X G z_all, PySem.W.mg_none_of X G z_bool, PySem.W.mg_none_of X G z_enumerate, PySem.W.mg_none_of X G z_int, PySem.W.mg_none_of X G z_isinstance, PySem.W.mg_none_of X G z_len, PySem.W.mg_none_of X G z_list, PySem.W.mg_none_of X G z_range, PySem.W.mg_none_of X G z_sorted, PySem.W.mg_none_of X G z_str, PySem.W.mg_none_of X G z_sum, PySem.W.mg_none_of X G z_tuple⟩
  have C_FIGURES := PySem.W.mg_of X G e_FIGURES
  have C_MOST_FIGURES := PySem.W.mg_of X G e_MOST_FIGURES
  have T_WANTED : TabS w K mg "WANTED" [("hosts", 2), ("more", 2), ("lead", 2), ("flow", 4), ("number", 3)] := tabS_mk (es := [("hosts", 2, t0_WANTED, u0_WANTED), ("more", 2, t1_WANTED, u1_WANTED), ("lead", 2, t2_WANTED, u2_WANTED), ("flow", 4, t3_WANTED, u3_WANTED), ("number", 3, t4_WANTED, u4_WANTED)]) X G e_WANTED r_WANTED l_WANTED (show (["hosts", "more", "lead", "flow", "number"] : List Str).Nodup by decide +kernel)
  refine ⟨PySem.W.fnOf "law" "law" (defArgs s_law) (defBody s_law) (defScope s_law) .none kV dc pm an cd ct, fun s v => .of_eq rfl, fun base XB GB => ?_⟩
  have E : Ev l.prog w K mg base h := ⟨X, G⟩
  have D_row_text := E.d A_0 fun F => ok_row_text F N
  have D_text_of := E.d A_1 fun F => ok_text_of F N D_row_text
  have D_flow_rows := E.d A_2 fun F => ok_flow_rows F N
  have D_number_rows := E.d A_3 fun F => ok_number_rows F N
  have D_paper_text := E.d A_4 fun F => ok_paper_text F N D_flow_rows D_number_rows D_text_of
  have D_has_wanted := E.d A_5 fun F => ok_has_wanted F N T_WANTED
  have D_is_number := E.d A_6 fun F => ok_is_number F N C_FIGURES C_MOST_FIGURES
  have D_read_row := E.d A_7 fun F => ok_read_row F N D_has_wanted D_is_number
  have D_flow_stands := E.d A_8 fun F => ok_flow_stands F N
  have D_number_stands := E.d A_9 fun F => ok_number_stands F N
  have D_stands_in_paper := E.d A_10 fun F => ok_stands_in_paper F N D_flow_stands D_number_stands
  have D_read_rows := E.d A_11 fun F => ok_read_rows F N D_read_row D_stands_in_paper
  have D_by_fields := E.d A_12 fun F => ok_by_fields F N
  have D_read_paper := E.d A_13 fun F => ok_read_paper F N D_by_fields D_read_rows D_stands_in_paper
  have D__law_stirred := E.d A_14 fun F => ok__law_stirred F N
  have D__law_opened := E.d A_15 fun F => ok__law_opened F N
  have D__law_draw := E.d A_16 fun F => ok__law_draw F N D__law_stirred
  have D__law_drawn_plan := E.d A_17 fun F => ok__law_drawn_plan F N D__law_draw
  have D__law_drawn_mix := E.d A_18 fun F => ok__law_drawn_mix F N D__law_draw D__law_drawn_plan
  have D__law_flowing := E.d A_19 fun F => ok__law_flowing F N
  have D__law_drawn_paper := E.d A_20 fun F => ok__law_drawn_paper F N D__law_draw
  have D__law_rows_of := E.d A_21 fun F => ok__law_rows_of F N
  have D__law_plainly := E.r A_22 fun F a b c => ok__law_plainly F N a b c
  have D__law_formed := E.d A_23 fun F => ok__law_formed F N D__law_draw D__law_drawn_mix D__law_flowing
  have D__law_marked := E.r A_24 fun F a b c => ok__law_marked F N a b c
  have D__law_once := E.r A_25 fun F a b c => ok__law_once F N a b c
  have D__law_right := E.d A_26 fun F => ok__law_right F N D__law_marked D__law_once D__law_plainly D__law_rows_of D_paper_text D_read_paper
  exact ok_law (P := l.prog) (w := w) (base := base) (fun_mk (st := s_law) lL cL kL) N D__law_drawn_paper D__law_formed D__law_opened D__law_right D__law_rows_of D_paper_text D_read_paper
theorem walk {l : PySem.W.OpenLaw} {q : Program} {loose : List Str} {XP : (Str → Option Value) → Heap → Prop} {YP : World → Heap → Prop} {d : DefRec} {K : Params → PySem.W.Frag} (hn : l.most = some 63) (hdf : d.params.defaults = [])
    (hY : ∀ (w : World) (h : Heap), YP w h → (K w.params).In h)
    (F : ∀ (w : World) (mg : Str → Option Value) (fa : Addr) (h : Heap), (K w.params).In h → h.Ns mainGlobals mg → mg d.name = some (.ref fa) →
      ∃ fd : FuncData, (∀ (s : Shared) (u : Value), BindsTo s fd ⟨[u], []⟩ [("_law_script", u)]) ∧ ∀ base : Heap, (K w.params).In base → base.Ns mainGlobals mg → FnOk l.prog w (K w.params) mg base CX0 9 fa fd ["_law_script"] (spLaw (K w.params))) :
    PySem.W.WalkO q loose XP YP l.row.toRowW d [] (fun f vs => PySem.call f vs) :=
  L2.walk_of (n := 63) (k := 9) (x := "_law_script") (CX := fun _ => CX0) (sp := fun w => spLaw (K w.params)) hn (by decide) hdf ⟨rfl, by decide, by decide, rfl⟩ hY F (fun _ _ a ns hl _ hS => ⟨a, ns, rfl, hS, hl, fun _ => rfl⟩) fun _ _ _ _ _ z => z
end G
namespace PySem.W.Fast
theorem tw10430464226532007106:True:=⟨⟩
theorem tw18385663832777444751:True:=⟨⟩
theorem tw15875681690336467326:True:=⟨⟩
theorem tw13296862807643236954:True:=⟨⟩
theorem tw2392058924641510524:True:=⟨⟩
theorem tw12779927726370668041:True:=⟨⟩
theorem tw11582386203574726255:True:=⟨⟩
theorem tw10121982752576021356:True:=⟨⟩
theorem tw4503177707341803292:True:=⟨⟩
theorem tw2783034715362371964:True:=⟨⟩
theorem tw10528004839595994346:True:=⟨⟩
theorem tw406037513186841694:True:=⟨⟩
theorem tw3813673321491556833:True:=⟨⟩
theorem tw6415607247422902738:True:=⟨⟩
theorem tw16329897230834760711:True:=⟨⟩
theorem tw12790559091955166097:True:=⟨⟩
theorem tw4916641045262756247:True:=⟨⟩
theorem tw572445443992425637:True:=⟨⟩
theorem tw7842346377133163653:True:=⟨⟩
theorem tw16462673778898145250:True:=⟨⟩
theorem tw12952088522015474434:True:=⟨⟩
theorem tw17781835258360476182:True:=⟨⟩
theorem tw17033690407309399650:True:=⟨⟩
theorem tw15368733174979765556:True:=⟨⟩
theorem tw2313307438981857677:True:=⟨⟩
theorem tw4583549866893403143:True:=⟨⟩
theorem tw3986613689751173556:True:=⟨⟩
theorem tw351937993978328533:True:=⟨⟩
theorem tw11793919738890924920:True:=⟨⟩
theorem tw8959840131819399048:True:=⟨⟩
theorem tw856374906319387665:True:=⟨⟩
theorem tw4823739575395621679:True:=⟨⟩
theorem tw5957008081411619029:True:=⟨⟩
theorem tw10314528628858817115:True:=⟨⟩
theorem tw2583962956276522637:True:=⟨⟩
theorem tw13489813834963548531:True:=⟨⟩
theorem tw6805775259144847139:True:=⟨⟩
theorem tw3454577728165696177:True:=⟨⟩
theorem tw12889467696141326347:True:=⟨⟩
theorem tw10928944251888078554:True:=⟨⟩
theorem tw12135277621876914603:True:=⟨⟩
theorem tw9257489051383273785:True:=⟨⟩
theorem tw13648593030086540236:True:=⟨⟩
theorem tw12754235179336688447:True:=⟨⟩
theorem tw14650880124447135357:True:=⟨⟩
theorem tw11389342458365447170:True:=⟨⟩
theorem tw7374078529228633948:True:=⟨⟩
theorem tw12943811306252027165:True:=⟨⟩
theorem tw1263855731503235174:True:=⟨⟩
theorem tw5370653886520967069:True:=⟨⟩
theorem tw15341015518663521770:True:=⟨⟩
theorem tw1736483153434624532:True:=⟨⟩
theorem tw16926058180878276206:True:=⟨⟩
theorem tw1655807907522557524:True:=⟨⟩
theorem tw9775279087859446669:True:=⟨⟩
theorem tw7319283225572721256:True:=⟨⟩
theorem tw16550367937375473591:True:=⟨⟩
theorem tw16539381499760217699:True:=⟨⟩
theorem tw10924496183962750073:True:=⟨⟩
theorem tw15556526237253118791:True:=⟨⟩
theorem tw4691200371034030980:True:=⟨⟩
theorem tw11347135147335138215:True:=⟨⟩
theorem tw2591182442541497215:True:=⟨⟩
theorem tw13612724458894004999:True:=⟨⟩
theorem tw4905051315904189298:True:=⟨⟩
theorem tw8517544511576840814:True:=⟨⟩
theorem tw523142327339094011:True:=⟨⟩
theorem tw13175759924740986510:True:=⟨⟩
theorem tw14645589970365804929:True:=⟨⟩
theorem tw14344900749402321150:True:=⟨⟩
theorem tw3457219811036000034:True:=⟨⟩
theorem tw8636542935535050907:True:=⟨⟩
theorem tw4376198616753219436:True:=⟨⟩
theorem tw12096113623797238967:True:=⟨⟩
theorem tw12636221900068897172:True:=⟨⟩
theorem tw941191749903679925:True:=⟨⟩
theorem tw6778506440496432004:True:=⟨⟩
theorem tw6489883792535768466:True:=⟨⟩
theorem tw2607133298931424217:True:=⟨⟩
theorem tw17897068015486209085:True:=⟨⟩
theorem tw11141699282122580638:True:=⟨⟩
theorem tw10039172818244854911:True:=⟨⟩
theorem tw13129816881056440929:True:=⟨⟩
theorem tw15515473544192007922:True:=⟨⟩
theorem tw8112687117735303911:True:=⟨⟩
theorem tw15461902736756571272:True:=⟨⟩
theorem tw12603116138933501087:True:=⟨⟩
theorem tw15379478862825943214:True:=⟨⟩
theorem tw3755917082382422316:True:=⟨⟩
theorem tw1715340236538484637:True:=⟨⟩
theorem tw6121472099140461961:True:=⟨⟩
theorem tw7325271721958169203:True:=⟨⟩
theorem tw12945617001574020230:True:=⟨⟩
theorem tw9609325913213348458:True:=⟨⟩
theorem tw18171352658023937020:True:=⟨⟩
theorem tw15818393726252549774:True:=⟨⟩
theorem tw11335040206534104195:True:=⟨⟩
theorem tw4650805690749412658:True:=⟨⟩
theorem tw15259286739509367592:True:=⟨⟩
theorem tw13045247540723957942:True:=⟨⟩
theorem tw16116707486152965542:True:=⟨⟩
theorem tw10456560227068661532:True:=⟨⟩
theorem tw15941550481128886571:True:=⟨⟩
theorem tw4769289397706487240:True:=⟨⟩
theorem tw12961766427644931019:True:=⟨⟩
theorem tw15022678966754773959:True:=⟨⟩
theorem tw12426712089118899736:True:=⟨⟩
theorem tw17266512976541504505:True:=⟨⟩
theorem tw728709381987725960:True:=⟨⟩
theorem tw6517936749159010708:True:=⟨⟩
theorem tw6456427034162684069:True:=⟨⟩
theorem tw9689702082611569409:True:=⟨⟩
theorem tw15768517136089674903:True:=⟨⟩
theorem tw12158213894788302842:True:=⟨⟩
theorem tw10946286625289757640:True:=⟨⟩
theorem tw18071623214809977477:True:=⟨⟩
theorem tw6075626927168508086:True:=⟨⟩
theorem tw7050970304579947225:True:=⟨⟩
theorem tw10114949714535969024:True:=⟨⟩
theorem tw2183490245290552421:True:=⟨⟩
theorem tw13278630848892319734:True:=⟨⟩
theorem tw5829355737485137877:True:=⟨⟩
theorem tw350387524992206834:True:=⟨⟩
theorem tw8349768553907243471:True:=⟨⟩
theorem tw7244238347833059777:True:=⟨⟩
theorem tw12156257866387408349:True:=⟨⟩
theorem tw25118208958099765:True:=⟨⟩
theorem tw2304073318295586486:True:=⟨⟩
theorem tw7412631771646301829:True:=⟨⟩
end PySem.W.Fast
open PySem PySem.W PyProof.Rows
set_option maxRecDepth 100000 in
set_option maxHeartbeats 0 in
theorem PySem.Challenge.cw_hostfields_k77_papers_written_holds : PySem.Challenge.rw_hostfields_k77_papers_written.Holds := by
  w_on; o_law; k_head; (case hw => w_witness2)
  k_fill
  first | refine G.walk (l := PySem.Challenge.rw_hostfields_k77_papers_written) rfl rfl (fun w h Y => PySem.W.kIn_of Y) ?F | refine G.walk (l := PySem.Challenge.rw_hostfields_k77_papers_written) rfl rfl (fun w h Y => PySem.W.km_in_of Y) ?F
  case F =>
    intro w mg fa h KX GG hmg
    refine' G.all_mk KX GG hmg ?e_FIGURES ?e_MOST_FIGURES ?e_WANTED ?l_WANTED ?r_WANTED ?_ ?_ ?_ ?_ ?_ ?_ ?_ ?_ ?_ ?_ ?_ ?_ ?_ ?_ ?_ ?_ ?_ ?_ ?_ ?_ ?_ ?_ ?_ ?_ ?_ ?_ ?_ ?_ ?z_all ?z_bool ?z_enumerate ?z_int ?z_isinstance ?z_len ?z_list ?z_range ?z_sorted ?z_str ?z_sum ?z_tuple
    (case e_FIGURES => k_is)
    (case e_MOST_FIGURES => k_is)
    (case e_WANTED => k_is)
    (case l_WANTED => k_is)
    (case r_WANTED => rfl)
    (case z_all => k_is)
    (case z_bool => k_is)
    (case z_enumerate => k_is)
    (case z_int => k_is)
    (case z_isinstance => k_is)
    (case z_len => k_is)
    (case z_list => k_is)
    (case z_range => k_is)
    (case z_sorted => k_is)
    (case z_str => k_is)
    (case z_sum => k_is)
    (case z_tuple => k_is)
    all_goals (apply G.FA.of; k_is; k_is; k_is; k_is)
