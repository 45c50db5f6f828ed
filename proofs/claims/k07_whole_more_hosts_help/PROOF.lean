import PyProof.Rows.All
import Wide.All
import OpenK.AllK
import Wide.FinOn
import Lean
import PyProof.EqAt
import PyProof.EqKinds
import PyProof.TupleCall
import PyProof.NeKinds
import PyProof.CompFree
import PyProof.EnumMake
import KE.KTryMore
import PyProof.ExcArgsOwn
import PyProof.ZipIter
import PyProof.ListRange
import PySem.Challenge.RW_hostfields_k07_whole_more_hosts_help
set_option Elab.async false
set_option linter.all false
set_option maxRecDepth 100000
/-! THE HAND LAYER, for ints, bools, texts, own classes, LISTS and tuples (index, slices, in, append, pop ..), calls, loops. Paste it whole ahead of your own text; what your proof does not reach may be deleted. -/
namespace L2
open PySem PySem.Spec PyProof.Rows

/-- a key: an int or a str -/
abbrev Key := Sum Int Str
def keyIs : Key → Value → Bool
  | .inl k, v => Value.isInt k v
  | .inr x, v => Value.isStrOf x v
def keyH (w : World) : Key → Int
  | .inl k => hashInt k
  | .inr x => hashStr w x
theorem keyIs_shape : ∀ {k : Key} {v : Value}, keyIs k v = true → (∃ i t, k = Sum.inl i ∧ v = Value.int i t) ∨ (∃ x t, k = Sum.inr x ∧ v = Value.str x t)
  | .inl i, v, h => by
    obtain ⟨t, e⟩ := Value.isInt_shape (k := i) (v := v) h
    exact .inl ⟨i, t, rfl, e⟩
  | .inr x, v, h => by
    obtain ⟨t, e⟩ := Value.isStrOf_shape (x := x) (v := v) h
    exact .inr ⟨x, t, rfl, e⟩
theorem key_ll (a b : Int) : decide ((Sum.inl a : Key) = Sum.inl b) = (a == b) := by
  by_cases e : a = b
  · subst e; simp
  · have h : ¬ (Sum.inl a : Key) = Sum.inl b := fun q => e (Sum.inl.inj q)
    rw [decide_eq_false h]
    exact (beq_eq_false_iff_ne.mpr e).symm
theorem key_rr (a b : Str) : decide ((Sum.inr a : Key) = Sum.inr b) = decide (a = b) := by
  by_cases e : a = b
  · subst e; simp
  · have h : ¬ (Sum.inr a : Key) = Sum.inr b := fun q => e (Sum.inr.inj q)
    rw [decide_eq_false h, decide_eq_false e]
theorem key_lr (a : Int) (b : Str) : decide ((Sum.inl a : Key) = Sum.inr b) = false := decide_eq_false (fun q => nomatch q)
theorem key_rl (a : Str) (b : Int) : decide ((Sum.inr a : Key) = Sum.inl b) = false := decide_eq_false (fun q => nomatch q)

def mixKind (prog : Program) (w : World) : PySem.KeyKind prog w Key where
  is := keyIs
  hash := keyH w
  inj := fun v a b ha hb => by
    rcases keyIs_shape ha with ⟨i, t, rfl, rfl⟩ | ⟨x, t, rfl, rfl⟩
    · rcases keyIs_shape hb with ⟨j, u, rfl, e⟩ | ⟨y, u, rfl, e⟩
      · injection e with e1 _; rw [e1]
      · exact nomatch e
    · rcases keyIs_shape hb with ⟨j, u, rfl, e⟩ | ⟨y, u, rfl, e⟩
      · exact nomatch e
      · injection e with e1 _; rw [e1]
  byValue := fun k v h => by
    rcases keyIs_shape h with ⟨i, t, rfl, rfl⟩ | ⟨x, t, rfl, rfl⟩ <;> rfl
  pyHash := fun hv h => by
    rcases keyIs_shape hv with ⟨i, t, rfl, rfl⟩ | ⟨x, t, rfl, rfl⟩
    · exact wpAny_pyHash_int h
    · exact wpAny_pyHash_str h
  eqBool := fun hu hv h => by
    rcases keyIs_shape hu with ⟨i, t, rfl, rfl⟩ | ⟨x, t, rfl, rfl⟩
    · rcases keyIs_shape hv with ⟨j, u, rfl, rfl⟩ | ⟨y, u, rfl, rfl⟩
      · rw [key_ll] at h; exact wpAny_eqBool_int h
      · rw [key_lr] at h; exact SeqAt.EqAt.int_str i t y u _ _ _ _ h
    · rcases keyIs_shape hv with ⟨j, u, rfl, rfl⟩ | ⟨y, u, rfl, rfl⟩
      · rw [key_rl] at h; exact SeqAt.EqAt.str_int x t j u _ _ _ _ h
      · rw [key_rr] at h; exact wpAny_eqBool_str h
  «strs» := fun k x t v h => by
    rcases keyIs_shape h with ⟨i, u, rfl, e⟩ | ⟨y, u, rfl, e⟩
    · exact nomatch e
    · injection e with e1 _
      subst e1
      cases v <;> rfl

end L2

namespace L2
open PySem PySem.Spec PyProof.Rows

/-- a value, without the heap -/
inductive V where
  | non | bl (b : Bool) | int (i : Int) | str (x : Str) | byt (b : Array UInt8) | flt (b : UInt64) | ref (a : Addr) | ty (n : String)
  deriving DecidableEq

def RelV : V → Value → Prop
  | .non, u => u = Value.none
  | .bl b, u => u = Value.bool b
  | .int i, u => ∃ t, u = Value.int i t
  | .str x, u => ∃ t, u = Value.str x t
  | .byt b, u => ∃ t, u = Value.bytes b t
  | .flt b, u => ∃ t, u = Value.float b t
  | .ref a, u => u = Value.ref a
  | .ty n, u => u = Value.type n

abbrev Vals : List V → List Value → Prop := Paired RelV
theorem Vals.length {xs : List V} {us : List Value} (r : Vals xs us) : xs.length = us.length := Paired.length r
theorem Vals.get : ∀ {xs : List V} {us : List Value} {i : Nat} {x : V}, Vals xs us → xs[i]? = some x → ∃ u, us[i]? = some u ∧ RelV x u
  | _, _, _, _, .nil, e => by simp at e
  | _, _, 0, _, .cons r _, e => by simp at e; subst e; exact ⟨_, rfl, r⟩
  | _, _, i + 1, x, .cons _ t, e => by
    obtain ⟨u, h1, h2⟩ := Vals.get (i := i) (x := x) t (by simpa using e)
    exact ⟨u, by simpa using h1, h2⟩
theorem Vals.set {x : V} {u : Value} (r : RelV x u) : ∀ {xs : List V} {us : List Value} (i : Nat), Vals xs us → Vals (xs.set i x) (us.set i u)
  | _, _, _, .nil => .nil
  | _, _, 0, .cons _ t => .cons r t
  | _, _, i + 1, .cons q t => .cons q (Vals.set r i t)
theorem Vals.append : ∀ {xs ys : List V} {us ws : List Value}, Vals xs us → Vals ys ws → Vals (xs ++ ys) (us ++ ws)
  | _, _, _, _, .nil, s => s
  | _, _, _, _, .cons r t, s => .cons r (Vals.append t s)
theorem Vals.take : ∀ {xs : List V} {us : List Value} (n : Nat), Vals xs us → Vals (xs.take n) (us.take n)
  | _, _, 0, _ => .nil
  | _, _, _ + 1, .nil => .nil
  | _, _, n + 1, .cons r t => .cons r (Vals.take n t)
theorem Vals.drop : ∀ {xs : List V} {us : List Value} (n : Nat), Vals xs us → Vals (xs.drop n) (us.drop n)
  | _, _, 0, r => r
  | _, _, _ + 1, .nil => .nil
  | _, _, n + 1, .cons _ t => Vals.drop n t
def RelO : Option V → Option Value → Prop
  | some v, some u => RelV v u
  | none, none => True
  | _, _ => False
def KV {κ : Type} : List (κ × V) → List (κ × Value) → Prop := Paired fun (p : κ × V) (q : κ × Value) => p.1 = q.1 ∧ RelV p.2 q.2

/-- a key of a dict (00_mix): an int or a text -/
def kV : Key → V
  | .inl i => .int i
  | .inr x => .str x

/-- what stands at a tracked address -/
inductive HO where
  /-- a list -/
  | lst (xs : List V)
  /-- a tuple (never changes) -/
  | tup (xs : List V)
  /-- a dict whose keys are ints and texts; one whose keys are tuples of ints and texts (the empty one is both) -/
  | dK (kvs : List (Key × V)) | dT (kvs : List (List Key × V))
  /-- a set of ints: its members, its size -/
  | set (S : Int → Bool) (n : Nat)
  /-- an instance of the class at C, its dict at dx, its attributes -/
  | ins (C dx : Addr) (fs : List (Str × V))
  /-- the dict of the instance at x -/
  | own (x : Addr)
  /-- the dict of an exception -/
  | xd (fs : List (Str × V))
  /-- a bound method, f of x -/
  | met (f x : Addr)
  /-- a range object lo, lo + 1, .. below hi -/
  | rng (lo hi : Int)
  /-- a thing that is known to the object (the script; a dict while a loop walks it): read, never written while it is so -/
  | frz (o : Obj) (u : HO)
  /-- a code object's table -/
  | tbl (ps : Array Value)
  /-- any other thing, by what is true of its one object (a def of one's own: SetO a S n := HO.ext fun h => ..) -/
  | ext (φ : Heap → Prop)

abbrev Hp := Addr → Option HO
def upd (H : Hp) (a : Addr) (o : HO) : Hp := fun b => if b = a then some o else H b
theorem upd_same {H : Hp} {a : Addr} {o : HO} : upd H a o a = some o := by unfold upd; rw [if_pos rfl]
theorem upd_ne {H : Hp} {a b : Addr} {o : HO} (h : b ≠ a) : upd H a o b = H b := by unfold upd; rw [if_neg h]
theorem ne_of_none {H : Hp} {a b : Addr} {o : HO} (h : H a = some o) (h' : H b = none) : a ≠ b := by
  intro e; subst e; rw [h] at h'; cases h'

section
variable (P : Program) (w : World)
def ObjOk (H : Hp) (h : Heap) (a : Addr) : HO → Prop
  | .lst xs => xs.length ≤ sizeLine ∧ ∃ (its : List Value) (n : Nat), Vals xs its ∧ h.get? a = some { cls := .type "list", data := .seq its.toArray n }
  | .tup xs => xs.length ≤ sizeLine ∧ ∃ its : List Value, Vals xs its ∧ IsTup h a its.toArray
  | .dK kvs => kvs.length ≤ sizeLine ∧ (a == sysModules) = false ∧ ∃ vs, KV kvs vs ∧ h.DictOf (mixKind P w) a vs
  | .dT kvs => kvs.length ≤ sizeLine ∧ (a == sysModules) = false ∧ ∃ xs : List (List Key × Addr × Value),
      Paired (fun (p : List Key × V) (q : List Key × Addr × Value) => p.1 = q.1 ∧ H q.2.1 = some (.tup (p.1.map kV)) ∧ RelV p.2 q.2.2) kvs xs ∧
      ∃ o es ep, h.get? a = some o ∧ o.ExactDict ∧ o.data = .dict es ep ∧ es.toList = xs.map (entryOfKey (tupleKind (mixKind P w))) ∧ (xs.map (·.1)).Nodup
  | .set S n => h.SetOf (intKind P w) a S n
  | .ins C dx fs => H dx = some (.own a) ∧ fs.length ≤ 1000 ∧ dx ≠ a ∧ h.get? a = some (PySem.W.instObj C dx) ∧
      ∃ mA, h.Ns1 dx mA ∧ (∀ f, RelO (fs.lookup f) (mA f)) ∧ PySem.Within mA (fs.map (·.1))
  | .own _ => ∃ o, h.get? a = some o
  | .xd fs => ∃ mA, h.Ns1 a mA ∧ ∀ f, RelO (fs.lookup f) (mA f)
  | .rng lo hi => ∃ t u v, h.get? a = some { cls := .type "range", data := .fields #[.int lo t, .int hi u, .int 1 v] }
  | .frz o u => h.get? a = some o ∧ ObjOk H h a u
  | .tbl ps => h.get? a = some { cls := .none, data := .fields ps }
  | .met f x => h.get? a = some (PySem.W.methodObj (.ref f) (.ref x))
  | .ext φ => φ h ∧ (∃ o, h.get? a = some o) ∧ ∀ h1 h2 : Heap, φ h1 → (∀ o, h1.get? a = some o → h2.get? a = some o) → φ h2
/-- the abstract heap is held -/
def HOk (H : Hp) (h : Heap) : Prop := ∀ a o, H a = some o → ObjOk P w H h a o
end

section
variable {P : Program} {w : World} {H H' : Hp} {h h' : Heap} {a : Addr} {o : HO}
theorem ObjOk.lt (x : ObjOk P w H h a o) : a < h.objs.size := by
  cases o with
  | lst xs => obtain ⟨_, _, _, _, e⟩ := x; exact Heap.lt_size e
  | tup xs => obtain ⟨_, _, _, p⟩ := x; exact p.lt
  | dK kvs => obtain ⟨_, _, _, _, o, _, _, e, _⟩ := x; exact Heap.lt_size e
  | dT kvs => obtain ⟨_, _, _, _, o, _, _, e, _⟩ := x; exact Heap.lt_size e
  | set S n => obtain ⟨o, _, _, _, e, _⟩ := x; exact Heap.lt_size e
  | ins C dx fs => obtain ⟨_, _, _, e, _⟩ := x; exact Heap.lt_size e
  | own y => obtain ⟨_, e⟩ := x; exact Heap.lt_size e
  | xd fs => obtain ⟨_, ⟨_, _, _, e, _⟩, _⟩ := x; exact Heap.lt_size e
  | rng lo hi => obtain ⟨_, _, _, e⟩ := x; exact Heap.lt_size e
  | frz ob u => obtain ⟨e, _⟩ := x; exact Heap.lt_size e
  | tbl ps => exact Heap.lt_size (show h.get? a = some _ from x)
  | met f y => exact Heap.lt_size (show h.get? a = some _ from x)
  | ext φ => obtain ⟨_, ⟨_, e⟩, _⟩ := x; exact Heap.lt_size e
theorem Paired.mapP {α β : Type} {F G : α → β → Prop} : ∀ {l₁ : List α} {l₂ : List β}, Paired F l₁ l₂ → (∀ a b, F a b → G a b) → Paired G l₁ l₂
  | _, _, .nil, _ => .nil
  | _, _, .cons r t, f => .cons (f _ _ r) (Paired.mapP t f)
/-- what an object's description leans on: its own object, its own dict, the tuples -/
theorem ObjOk.stay (x : ObjOk P w H h a o) (k : ∀ b u, (b = a ∨ H b = some (.own a)) → h.get? b = some u → h'.get? b = some u)
    (ho : ∀ b, H b = some (.own a) → H' b = some (.own a)) (ht : ∀ b xs, H b = some (.tup xs) → H' b = some (.tup xs)) : ObjOk P w H' h' a o := by
  induction o with
  | lst xs => obtain ⟨z, its, n, r, e⟩ := x; exact ⟨z, its, n, r, k _ _ (.inl rfl) e⟩
  | tup xs => obtain ⟨z, its, r, ob, e, c⟩ := x; exact ⟨z, its, r, ob, k _ _ (.inl rfl) e, c⟩
  | dK kvs => obtain ⟨z, y, vs, r, ob, es, ep, e, c⟩ := x; exact ⟨z, y, vs, r, ob, es, ep, k _ _ (.inl rfl) e, c⟩
  | dT kvs =>
    obtain ⟨z, y, xs, r, ob, es, ep, e, c⟩ := x
    exact ⟨z, y, xs, Paired.mapP r fun p q z => ⟨z.1, ht _ _ z.2.1, z.2.2⟩, ob, es, ep, k _ _ (.inl rfl) e, c⟩
  | set S n => obtain ⟨ob, es, ep, t, e, c⟩ := x; exact ⟨ob, es, ep, t, k _ _ (.inl rfl) e, c⟩
  | ins C dx fs =>
    obtain ⟨d, z, ne, e, mA, ⟨od, es, ep, e2, c⟩, r⟩ := x
    exact ⟨ho _ d, z, ne, k _ _ (.inl rfl) e, mA, ⟨od, es, ep, k _ _ (.inr d) e2, c⟩, r⟩
  | own y => obtain ⟨ob, e⟩ := x; exact ⟨ob, k _ _ (.inl rfl) e⟩
  | xd fs => obtain ⟨mA, ⟨od, es, ep, e, c⟩, r⟩ := x; exact ⟨mA, ⟨od, es, ep, k _ _ (.inl rfl) e, c⟩, r⟩
  | rng lo hi => obtain ⟨t, u, v, e⟩ := x; exact ⟨t, u, v, k _ _ (.inl rfl) e⟩
  | frz ob u ih => obtain ⟨e, q⟩ := x; exact ⟨k _ _ (.inl rfl) e, ih q⟩
  | tbl ps =>
    have e : h.get? a = some { cls := .none, data := .fields ps } := x
    show h'.get? a = some { cls := .none, data := .fields ps }
    exact k a _ (.inl rfl) e
  | met f y =>
    have e : h.get? a = some (PySem.W.methodObj (.ref f) (.ref y)) := x
    show h'.get? a = some (PySem.W.methodObj (.ref f) (.ref y))
    exact k a _ (.inl rfl) e
  | ext φ => obtain ⟨p, ⟨o, e⟩, st⟩ := x; exact ⟨st _ _ p fun o q => k _ _ (.inl rfl) q, ⟨o, k _ _ (.inl rfl) e⟩, st⟩
theorem HOk.lt (x : HOk P w H h) (e : H a = some o) : a < h.objs.size := (x a o e).lt
theorem HOk.fresh (x : HOk P w H h) (e : h.objs.size ≤ a) : H a = none := by
  cases q : H a with
  | none => rfl
  | some u => exact absurd (Nat.lt_of_lt_of_le (x.lt q) e) (Nat.lt_irrefl _)
/-- every object of the heap is kept -/
theorem HOk.kept (x : HOk P w H h) (k : ∀ b u, h.get? b = some u → h'.get? b = some u) : HOk P w H h' := fun a o e =>
  (x a o e).stay (fun b u _ q => k b u q) (fun _ q => q) fun _ _ q => q
/-- a new object is laid and tracked -/
theorem HOk.laid (x : HOk P w H h) (k : ∀ b u, h.get? b = some u → h'.get? b = some u) (hp : h.objs.size ≤ a) (new : ObjOk P w (upd H a o) h' a o) : HOk P w (upd H a o) h' := fun b u e => by
  have hn := x.fresh hp
  by_cases hb : b = a
  · subst hb; rw [upd_same] at e; cases e; exact new
  · rw [upd_ne hb] at e
    exact (x b u e).stay (fun c v _ q => k c v q) (fun c q => by rw [upd_ne (ne_of_none q hn)]; exact q) fun c xs q => by rw [upd_ne (ne_of_none q hn)]; exact q
end

/-- what may be read as u: it is u, or a known u -/
def Rd (H : Hp) (a : Addr) (u : HO) : Prop := H a = some u ∨ ∃ o, H a = some (.frz o u)
theorem Rd.of {H : Hp} {a : Addr} {u : HO} (h : H a = some u) : Rd H a u := .inl h
theorem Rd.ok {P : Program} {w : World} {H : Hp} {h : Heap} {a : Addr} {u : HO} (r : Rd H a u) (x : HOk P w H h) : ObjOk P w H h a u := by
  rcases r with r | ⟨o, r⟩
  · exact x a u r
  · obtain ⟨_, q⟩ := x a _ r
    exact q
/-- what may be written -/
def Mut : Option HO → Prop
  | some (.lst _) => True
  | some (.dK _) => True
  | some (.dT _) => True
  | some (.set _ _) => True
  | some (.ins _ _ _) => True
  | some (.ext _) => True
  | _ => False
section
variable {P : Program} {w : World} {H : Hp} {h h' : Heap} {x e : Addr} {o' : HO}
/-- the object at e is changed: x itself, or the dict of the instance x -/
theorem HOk.write (ok : HOk P w H h) (mu : Mut (H x)) (he : e = x ∨ H e = some (.own x)) (k : ∀ b u, b ≠ e → h.get? b = some u → h'.get? b = some u) (heo : ∃ u, h'.get? e = some u)
    (new : ObjOk P w (upd H x o') h' x o') : HOk P w (upd H x o') h' := fun b u q => by
  have nown : ∀ c y, H c = some (.own y) → c ≠ x := fun c y r z => by subst z; rw [r] at mu; exact mu
  have ntup : ∀ c xs, H c = some (.tup xs) → c ≠ x := fun c xs r z => by subst z; rw [r] at mu; exact mu
  by_cases hb : b = x
  · subst hb; rw [upd_same] at q; cases q; exact new
  · rw [upd_ne hb] at q
    by_cases hbe : b = e
    · have q' : H b = some (.own x) := by
        rcases he with z | z
        · exact absurd (hbe.trans z) hb
        · rw [hbe]; exact z
      rw [q] at q'; cases q'
      obtain ⟨v, hv⟩ := heo
      exact ⟨v, by rw [hbe]; exact hv⟩
    · refine (ok b u q).stay (fun c v hc r => k c v ?_ r) (fun c r => by rw [upd_ne (nown c b r)]; exact r) fun c xs r => by rw [upd_ne (ntup c xs r)]; exact r
      rcases hc with rfl | hc
      · exact hbe
      · rintro rfl
        rcases he with z | z
        · exact nown c b hc z
        · rw [hc] at z; cases z; exact hb rfl
end

/-! ### kept unless tracked; of the frames at fs (the callers') the slots may change (an exception that passes writes there); of the records at ex (iterators) nothing is said -/
structure Un (fs ex : List Addr) (H H' : Hp) (h h' : Heap) : Prop where
  keep : ∀ b o, h.get? b = some o → H b = none → b ∉ fs → b ∉ ex → h'.get? b = some o
  slot : ∀ b o, h.get? b = some o → H b = none → b ∈ fs → b ∉ ex → ∃ sl, h'.get? b = some { o with slots := sl }
  free : ∀ b o, h.get? b = some o → H b = none → b ∉ ex → H' b = none
  there : ∀ b o, h.get? b = some o → b ∉ ex → ∃ o', h'.get? b = some o'
  tups : ∀ b xs, H b = some (.tup xs) → H' b = some (.tup xs)
  frzs : ∀ b o u, H b = some (.frz o u) → H' b = some (.frz o u)
  tbls : ∀ b ps, H b = some (.tbl ps) → ∃ more, H' b = some (.tbl (ps ++ more))
section
variable {fs fs' ex ex' : List Addr} {H H1 H2 : Hp} {h h1 h2 h' : Heap} {a x e : Addr} {o : HO}
theorem Un.any (u : Un fs ex H H1 h h1) {b : Addr} {ob : Obj} (q : h.get? b = some ob) (n : H b = none) (hx : b ∉ ex) : ∃ sl, h1.get? b = some { ob with slots := sl } := by
  by_cases hb : b ∈ fs
  · exact u.slot b ob q n hb hx
  · exact ⟨ob.slots, u.keep b ob q n hb hx⟩
theorem Un.trans (a : Un fs ex H H1 h h1) (b : Un fs ex H1 H2 h1 h2) : Un fs ex H H2 h h2 where
  keep := fun c ob q n hc hx => b.keep c ob (a.keep c ob q n hc hx) (a.free c ob q n hx) hc hx
  slot := fun c ob q n hc hx => by
    obtain ⟨sl, e1⟩ := a.slot c ob q n hc hx
    obtain ⟨sl', e2⟩ := b.slot c _ e1 (a.free c ob q n hx) hc hx
    exact ⟨sl', e2⟩
  free := fun c ob q n hx => by
    obtain ⟨o', e1⟩ := a.there c ob q hx
    exact b.free c o' e1 (a.free c ob q n hx) hx
  there := fun c ob q hx => by
    obtain ⟨o', e1⟩ := a.there c ob q hx
    exact b.there c o' e1 hx
  tups := fun c xs q => b.tups c xs (a.tups c xs q)
  frzs := fun c ob xs q => b.frzs c ob xs (a.frzs c ob xs q)
  tbls := fun c ps q => by
    obtain ⟨m1, e1⟩ := a.tbls c ps q
    obtain ⟨m2, e2⟩ := b.tbls c _ e1
    exact ⟨m1 ++ m2, by rw [e2, Array.append_assoc]⟩
theorem Un.kept (k : ∀ b u, h.get? b = some u → h'.get? b = some u) : Un fs ex H H h h' :=
  ⟨fun b ob q _ _ _ => k b ob q, fun b ob q _ _ _ => ⟨ob.slots, k b ob q⟩, fun _ _ _ n _ => n, fun b ob q _ => ⟨ob, k b ob q⟩, fun _ _ q => q, fun _ _ _ q => q, fun _ ps q => ⟨#[], by rw [q]; simp⟩⟩
theorem Un.refl : Un fs ex H H h h := Un.kept fun _ _ q => q
theorem Un.laid (k : ∀ b u, h.get? b = some u → h'.get? b = some u) (hp : h.objs.size ≤ a) (hn : H a = none) : Un fs ex H (upd H a o) h h' where
  keep := fun b u q _ _ _ => k b u q
  slot := fun b u q _ _ _ => ⟨u.slots, k b u q⟩
  free := fun b u q n _ => by rw [upd_ne (Nat.ne_of_lt (Nat.lt_of_lt_of_le (Heap.lt_size q) hp))]; exact n
  there := fun b u q _ => ⟨u, k b u q⟩
  tups := fun b xs q => by rw [upd_ne (ne_of_none q hn)]; exact q
  frzs := fun b u xs q => by rw [upd_ne (ne_of_none q hn)]; exact q
  tbls := fun b ps q => ⟨#[], by rw [upd_ne (ne_of_none q hn), q]; simp⟩
theorem Un.write (mu : Mut (H x)) (he : e = x ∨ H e = some (.own x)) (k : ∀ b u, b ≠ e → h.get? b = some u → h'.get? b = some u) (heo : ∃ u, h'.get? e = some u) : Un fs ex H (upd H x o) h h' := by
  have hx : ∀ b, H b = none → b ≠ x := fun b n z => by subst z; rw [n] at mu; exact mu
  have hb : ∀ b, H b = none → b ≠ e := fun b n z => by
    subst z
    rcases he with r | r
    · exact hx b n r
    · rw [n] at r; cases r
  have hm : ∀ b u, H b = some u → ¬ Mut (some u) → b ≠ x := fun b u q nm z => by subst z; rw [q] at mu; exact nm mu
  refine ⟨fun b u q n _ _ => k b u (hb b n) q, fun b u q n _ _ => ⟨u.slots, k b u (hb b n) q⟩, fun b u q n _ => by rw [upd_ne (hx b n)]; exact n, fun b u q _ => ?_,
    fun b xs q => by rw [upd_ne (hm b _ q fun z => z)]; exact q, fun b u xs q => by rw [upd_ne (hm b _ q fun z => z)]; exact q, fun b ps q => ⟨#[], by rw [upd_ne (hm b _ q fun z => z), q]; simp⟩⟩
  by_cases hbe : b = e
  · subst hbe; exact heo
  · exact ⟨u, k b u hbe q⟩
end

/-! ### the heap without what is tracked -/
def trk (h : Heap) (H : Hp) : List Addr := (List.range h.objs.size).filter fun a => (H a).isSome
def hidT (h : Heap) (H : Hp) : Heap := PySem.W.hideAll h (trk h H)
theorem hidT_size (h : Heap) (H : Hp) : (hidT h H).objs.size = h.objs.size := PySem.W.hideAll_size _ _
theorem hidT_get {h : Heap} {H : Hp} {b : Addr} {o : Obj} (e : h.get? b = some o) (n : H b = none) : (hidT h H).get? b = some o :=
  PySem.W.hideAll_get _ e fun hm => by
    have q : (H b).isSome = true := (List.mem_filter.mp hm).2
    rw [n] at q; simp at q
theorem of_hidT {h : Heap} {H : Hp} {b : Addr} {o : Obj} (e : (hidT h H).get? b = some o) : h.get? b = some o ∧ H b = none := by
  have e' : h.get? b = some o := PySem.W.of_hideAll (trk h H) e
  refine ⟨e', ?_⟩
  cases q : H b with
  | none => rfl
  | some x =>
    have hm : b ∈ trk h H := List.mem_filter.mpr ⟨List.mem_range.mpr (Heap.lt_size e'), by simp [q]⟩
    have z : (hidT h H).get? b = none := PySem.W.hideAll_none (trk h H) hm
    rw [z] at e; cases e

/-! ### OpenK's ledger, filled with every new object but one -/
def allNews (g h : Heap) (L : Addr) : List (Addr × Obj) := (List.range h.objs.size).filterMap fun a => if a = L ∨ (g.get? a).isSome = true then none else (h.get? a).map fun o => (a, o)
def rest (g h : Heap) (L d : Addr) : List (Addr × Obj) := (allNews g h L).filter fun p => decide (p.1 ≠ d)
end L2

namespace L2
open PySem PySem.Spec PyProof.Rows

/-- the module's facts, over the base: the heap at the law's entry without what is tracked there -/
structure Mod (K : PySem.W.Frag) (mg : Str → Option Value) (base : Heap) : Prop where
  kin : K.In base
  glob : base.Ns mainGlobals mg
  blt : ∃ mb, base.Ns builtinsNs mb ∧ ∀ x : Str, x ≠ "__name__" → mb x = bootBuiltins x
  nolimit : base.NoLimit

/-- the context: a def's body (or a comprehension's block) running. base: fixed through the whole law; s₀, H₀: the entry; outer: the frames whose slots others may change (a def's callers); stack: all frames that run;
   ex: iterators that were made ahead of the entry and are walked here (a comprehension's); fn: the names whose cells were made at the entry (a def: all; a comprehension's block: its own); calm: not within an except suite; pn: pins that every state bears; xe: what is wanted of an exception that leaves the code -/
structure Cx where
  prog : Program
  w : World
  K : PySem.W.Frag
  mg : Str → Option Value
  base : Heap
  A : Around
  N : List Str
  s₀ : Shared
  H₀ : Hp
  env : Env
  outer : List Env
  stack : List Env
  ex : List Addr
  fn : Str → Bool
  calm : Bool
  pn : List (Addr × Obj)
  xe : Value → Shared → Prop
/-- the callers' frames -/
def frs (l : List Env) : List Addr := l.filterMap (·.frame)
abbrev Cx.fs (X : Cx) : List Addr := frs X.outer

def Vis (sc : Scope) (x : Str) : Prop := sc.names.lookup x = some .local ∨ sc.names.lookup x = some .cell ∨ sc.names.lookup x = some .free
def Loc (sc : Scope) (x : Str) : Prop := sc.names.lookup x = some .local ∨ sc.names.lookup x = some .cell
def Look (env : Env) (h : Heap) (m : Str → Option Value) (x : Str) (u : Value) : Prop :=
  (env.kindOf x = some .local ∧ m x = some u) ∨ ((env.kindOf x = some .cell ∨ env.kindOf x = some .free) ∧ ∃ c, env.cells.lookup x = some c ∧ h.IsCell c (some u))

structure Cx.Ok (X : Cx) : Prop where
  mod : Mod X.K X.mg X.base
  kind : X.env.scope.kind = .function
  glob : X.env.globals = mainGlobals
  blt : X.env.builtins = builtinsNs
  above : X.s₀.heap.objs.size ≤ X.env.locals
  inj : ∀ x y c, X.env.cells.lookup x = some c → X.env.cells.lookup y = some c → x = y
  has : ∀ x, (X.env.kindOf x = some .cell ∨ X.env.kindOf x = some .free) → ∃ c, X.env.cells.lookup x = some c
  cab : ∀ x c, X.fn x = true → X.env.cells.lookup x = some c → X.s₀.heap.objs.size ≤ c
  hd : X.calm = true → X.A.handled = none
  frames : X.A.frames = some X.stack
  stk : X.stack = X.outer ∨ (X.stack = X.env :: X.outer ∧ X.env.frame = some X.env.locals)
  exf : ∀ b ∈ X.ex, b ≠ X.env.locals ∧ ∀ x c, X.env.cells.lookup x = some c → c ≠ b
  bs : ∀ b o, X.base.get? b = some o → X.s₀.heap.get? b = some o ∧ X.H₀ b = none
  bsz : X.base.objs.size ≤ X.s₀.heap.objs.size
  noex : ∀ b o, X.base.get? b = some o → b ∉ X.ex
  exfs : ∀ b ∈ X.ex, b ∉ X.fs
  funs : X.s₀.heap.FunFrames X.base X.outer
  frf : ∀ b ∈ X.fs, X.H₀ b = none

structure Inv (X : Cx) (pins : List (Addr × Obj)) (σ : List (Option V)) (H : Hp) (s : Shared) : Prop where
  ok : X.Ok
  os : s.os = X.s₀.os
  bare : AllBare s.gens
  base : Un X.fs X.ex X.H₀ H X.s₀.heap s.heap
  loc : ∃ m, s.heap.Ns X.env.locals m ∧ ∀ (i : Nat) (x : Str) (v : V), X.N[i]? = some x → σ[i]? = some (some v) → Vis X.env.scope x → ∃ u, RelV v u ∧ Look X.env s.heap m x u
  cell : ∀ x c, X.env.cells.lookup x = some c → ∃ v, s.heap.IsCell c v
  free : H X.env.locals = none
  freeC : ∀ x c, X.env.cells.lookup x = some c → H c = none
  pin : ∀ p ∈ X.pn ++ pins, s.heap.get? p.1 = some p.2 ∧ H p.1 = none ∧ p.1 ≠ X.env.locals ∧ p.1 ∉ X.fs ∧ ∀ v, p.2.data ≠ .cell v
  hok : HOk X.prog X.w H s.heap
  len : σ.length = X.N.length

section
variable {X : Cx} {pins : List (Addr × Obj)} {σ : List (Option V)} {H H' : Hp} {s : Shared} {h' : Heap}

theorem Cx.Ok.nofr (ok : X.Ok) {b : Addr} {o : Obj} (e : X.base.get? b = some o) : b ∉ X.fs := fun hb => by
  have := (ok.funs.mem hb).1
  rw [e] at this; cases this
theorem Inv.bs (I : Inv X pins σ H s) : ∀ b o, X.base.get? b = some o → s.heap.get? b = some o ∧ H b = none := fun b o e =>
  ⟨I.base.keep b o (I.ok.bs b o e).1 (I.ok.bs b o e).2 (I.ok.nofr e) (I.ok.noex b o e), I.base.free b o (I.ok.bs b o e).1 (I.ok.bs b o e).2 (I.ok.noex b o e)⟩
theorem Inv.bk (I : Inv X pins σ H s) : ∀ b o, X.base.get? b = some o → s.heap.get? b = some o := fun b o e => (I.bs b o e).1
theorem Inv.mod (I : Inv X pins σ H s) : Mod X.K X.mg X.base := I.ok.mod
theorem Inv.kIn (I : Inv X pins σ H s) : X.K.In s.heap := I.ok.mod.kin.keeps I.bk
theorem Inv.lt (I : Inv X pins σ H s) : X.env.locals < s.heap.objs.size := let ⟨_, hn, _⟩ := I.loc; hn.lt
theorem Inv.sz (I : Inv X pins σ H s) : X.s₀.heap.objs.size ≤ s.heap.objs.size := Nat.le_trans I.ok.above (Nat.le_of_lt I.lt)
theorem Inv.nofs (I : Inv X pins σ H s) {a : Addr} (h : s.heap.objs.size ≤ a) : a ∉ X.fs := fun hb => by
  obtain ⟨_, o, ho, _⟩ := I.ok.funs.mem hb
  exact absurd (Nat.lt_of_lt_of_le (Heap.lt_size ho) (Nat.le_trans I.sz h)) (Nat.lt_irrefl _)
theorem Inv.cne (I : Inv X pins σ H s) : ∀ x c, X.env.cells.lookup x = some c → c ≠ X.env.locals := fun x c e z => by
  obtain ⟨v, o, ho, hd⟩ := I.cell x c e
  obtain ⟨m, ⟨o', es, ep, ho', hd', _⟩, _⟩ := I.loc
  rw [z, ho'] at ho; cases ho; rw [hd'] at hd; cases hd
theorem Inv.funs (I : Inv X pins σ H s) : s.heap.FunFrames X.base X.outer := by
  have all : ∀ (l : List Env), (∀ b ∈ frs l, b ∈ X.fs) → X.s₀.heap.FunFrames X.base l → s.heap.FunFrames X.base l := by
    intro l
    induction l with
    | nil => intro _ _; trivial
    | cons env r ih =>
      intro hs hl
      obtain ⟨hk, ⟨L, o, hf, hn, ho, hd⟩, hr⟩ := hl
      have hL : L ∈ X.fs := hs L (by unfold frs; rw [List.filterMap_cons, hf]; exact List.mem_cons_self)
      obtain ⟨sl, e⟩ := I.base.slot L o ho (I.ok.frf L hL) hL fun z => I.ok.exfs L z hL
      exact ⟨hk, ⟨L, _, hf, hn, e, hd⟩, ih (fun b hb => hs b (by unfold frs; rw [List.filterMap_cons, hf]; exact List.mem_cons_of_mem _ hb)) hr⟩
  exact all X.outer (fun _ hb => hb) I.ok.funs

/-- the frames that run, for a call -/
theorem Inv.stack (I : Inv X pins σ H s) : s.heap.FunFrames X.base X.stack := by
  rcases I.ok.stk with e | ⟨e, hf⟩
  · rw [e]; exact I.funs
  · rw [e]
    obtain ⟨m, hn, _⟩ := I.loc
    refine .cons (by rw [I.ok.kind]; decide) hf hn ?_ I.funs
    exact Heap.get?_none_of_le (Nat.le_trans I.ok.bsz I.ok.above)
theorem Inv.stkSub (I : Inv X pins σ H s) : ∀ b ∈ frs X.stack, b ∈ X.env.locals :: X.fs := fun b hb => by
  rcases I.ok.stk with e | ⟨e, hf⟩
  · rw [e] at hb; exact List.mem_cons_of_mem _ hb
  · rw [e] at hb
    unfold frs at hb
    rw [List.filterMap_cons, hf] at hb
    exact hb
theorem Inv.stkFree (I : Inv X pins σ H s) : ∀ b ∈ frs X.stack, H b = none := fun b hb => by
  rcases List.mem_cons.mp (I.stkSub b hb) with e | hb
  · rw [e]; exact I.free
  · obtain ⟨_, o, ho, _⟩ := I.ok.funs.mem hb
    exact I.base.free b o ho (I.ok.frf b hb) fun z => I.ok.exfs b z hb

/-- THE STEP: the untracked objects but the frame and the records at ch are kept (the callers' frames up to slots), the frame's map is kept, the new abstract heap is held -/
theorem Inv.step {g' : Array GenState} {t' : Nat} {d' : Drawn} {ch : List Addr} (I : Inv X pins σ H s)
    (hch : ∀ b ∈ ch, (b ∈ X.ex ∨ X.s₀.heap.objs.size ≤ b) ∧ b ≠ X.env.locals ∧ (∀ x c, X.env.cells.lookup x = some c → c ≠ b) ∧ ∀ p ∈ X.pn ++ pins, p.1 ≠ b)
    (keep : ∀ b o, b ≠ X.env.locals → b ∉ X.fs → b ∉ ch → s.heap.get? b = some o → H b = none → h'.get? b = some o)
    (slot : ∀ b o, b ≠ X.env.locals → b ∈ X.fs → b ∉ ch → s.heap.get? b = some o → H b = none → ∃ sl, h'.get? b = some { o with slots := sl }) (free : ∀ b o, b ∉ ch → s.heap.get? b = some o → H b = none → H' b = none)
    (there : ∀ b o, b ∉ ch → s.heap.get? b = some o → ∃ o', h'.get? b = some o')
    (tups : ∀ b xs, H b = some (.tup xs) → H' b = some (.tup xs)) (frzs : ∀ b o u, H b = some (.frz o u) → H' b = some (.frz o u)) (tbls : ∀ b ps, H b = some (.tbl ps) → ∃ more, H' b = some (.tbl (ps ++ more)))
    (ns : ∀ m, s.heap.Ns X.env.locals m → h'.Ns X.env.locals m) (hok : HOk X.prog X.w H' h') (hg : AllBare g') :
    Inv X pins σ H' { s with heap := h', gens := g', drawn := d', toks := t' } := by
  have neL : ∀ b o, X.s₀.heap.get? b = some o → b ≠ X.env.locals := fun b o e => Nat.ne_of_lt (Nat.lt_of_lt_of_le (Heap.lt_size e) I.ok.above)
  have neC : ∀ b o, X.s₀.heap.get? b = some o → b ∉ X.ex → b ∉ ch := fun b o e hx hb => by
    rcases (hch b hb).1 with z | z
    · exact hx z
    · exact absurd (Nat.lt_of_lt_of_le (Heap.lt_size e) z) (Nat.lt_irrefl _)
  have cellK : ∀ x c, X.env.cells.lookup x = some c → ∀ v, s.heap.IsCell c v → h'.IsCell c v := fun x c e v ⟨o, ho, hd⟩ => by
    have nch : c ∉ ch := fun z => (hch c z).2.2.1 x c e rfl
    by_cases hc : c ∈ X.fs
    · obtain ⟨sl, q⟩ := slot c o (I.cne x c e) hc nch ho (I.freeC x c e)
      exact ⟨_, q, hd⟩
    · exact ⟨o, keep c o (I.cne x c e) hc nch ho (I.freeC x c e), hd⟩
  refine ⟨I.ok, I.os, hg, ⟨fun b o e n hb hx => ?_, fun b o e n hb hx => ?_, fun b o e n hx => ?_, fun b o e hx => ?_, fun b xs e => tups b xs (I.base.tups b xs e), fun b o xs e => frzs b o xs (I.base.frzs b o xs e), fun b ps e => ?_⟩, ?_, fun x c e => ?_, ?_, fun x c e => ?_, fun p hp => ?_, hok, I.len⟩
  · exact keep b o (neL b o e) hb (neC b o e hx) (I.base.keep b o e n hb hx) (I.base.free b o e n hx)
  · obtain ⟨sl, e1⟩ := I.base.slot b o e n hb hx
    obtain ⟨sl', e2⟩ := slot b _ (neL b o e) hb (neC b o e hx) e1 (I.base.free b o e n hx)
    exact ⟨sl', e2⟩
  · obtain ⟨o', e1⟩ := I.base.there b o e hx
    exact free b o' (neC b o e hx) e1 (I.base.free b o e n hx)
  · obtain ⟨o', e1⟩ := I.base.there b o e hx
    exact there b o' (neC b o e hx) e1
  · obtain ⟨m1, e1⟩ := I.base.tbls b ps e
    obtain ⟨m2, e2⟩ := tbls b _ e1
    exact ⟨m1 ++ m2, by rw [e2, Array.append_assoc]⟩
  · obtain ⟨m, hn, hl⟩ := I.loc
    refine ⟨m, ns m hn, fun i x v e1 e2 e3 => ?_⟩
    obtain ⟨u, r, l⟩ := hl i x v e1 e2 e3
    refine ⟨u, r, ?_⟩
    rcases l with l | ⟨k, c, e, z⟩
    · exact .inl l
    · exact .inr ⟨k, c, e, cellK x c e _ z⟩
  · obtain ⟨v, z⟩ := I.cell x c e
    exact ⟨v, cellK x c e v z⟩
  · obtain ⟨m, ⟨o, _, _, ho, _⟩, _⟩ := I.loc
    exact free _ o (fun z => (hch _ z).2.1 rfl) ho I.free
  · obtain ⟨v, o, ho, hd⟩ := I.cell x c e
    exact free c o (fun z => (hch c z).2.2.1 x c e rfl) ho (I.freeC x c e)
  · obtain ⟨e, n, ne, nf, d⟩ := I.pin p hp
    have nch : p.1 ∉ ch := fun z => (hch p.1 z).2.2.2 p hp rfl
    exact ⟨keep p.1 p.2 ne nf nch e n, free p.1 p.2 nch e n, ne, nf, d⟩
/-- .. where the frame's own object is kept too -/
theorem Inv.un {t' : Nat} (I : Inv X pins σ H s) (u : Un X.fs [] H H' s.heap h') (hok : HOk X.prog X.w H' h') : Inv X pins σ H' { s with heap := h', toks := t' } := by
  obtain ⟨m, ⟨o, es, ep, ho, r⟩, _⟩ := id I.loc
  obtain ⟨sl, hL⟩ := u.any ho I.free (by simp)
  exact I.step (g' := s.gens) (d' := s.drawn) (ch := []) (fun _ z => nomatch z) (fun b o _ hb _ e n => u.keep b o e n hb (by simp)) (fun b o _ hb _ e n => u.slot b o e n hb (by simp)) (fun b o _ e n => u.free b o e n (by simp)) (fun b o _ e => u.there b o e (by simp)) u.tups u.frzs u.tbls (fun m' hm => by
    obtain ⟨o', es', ep', ho', r'⟩ := hm
    rw [ho] at ho'; cases ho'
    exact ⟨_, es', ep', hL, r'⟩) hok I.bare
/-- behind a call (or a comprehension's block): the slots of this frame may have changed too, the records at ch may have turned -/
theorem Inv.call {g' : Array GenState} {t' : Nat} {d' : Drawn} {ch : List Addr} (I : Inv X pins σ H s) (u : Un (frs X.stack) ch H H' s.heap h') (hok : HOk X.prog X.w H' h') (hg : AllBare g')
    (hch : ∀ b ∈ ch, (b ∈ X.ex ∨ X.s₀.heap.objs.size ≤ b) ∧ b ≠ X.env.locals ∧ (∀ x c, X.env.cells.lookup x = some c → c ≠ b) ∧ ∀ p ∈ X.pn ++ pins, p.1 ≠ b) :
    Inv X pins σ H' { s with heap := h', gens := g', drawn := d', toks := t' } := by
  obtain ⟨m, ⟨o, es, ep, ho, r⟩, _⟩ := id I.loc
  obtain ⟨sl, hL⟩ := u.any ho I.free fun z => (hch _ z).2.1 rfl
  exact I.step (ch := ch) hch (fun b o hL hb hc e n => u.keep b o e n (fun z => (List.mem_cons.mp (I.stkSub b z)).elim hL hb) hc) (fun b o _ _ hc e n => u.any e n hc) (fun b o hc e n => u.free b o e n hc) (fun b o hc e => u.there b o e hc) u.tups u.frzs u.tbls (fun m' hm => by
    obtain ⟨o', es', ep', ho', r'⟩ := hm
    rw [ho] at ho'; cases ho'
    exact ⟨_, es', ep', hL, r'⟩) hok hg
/-- an untracked record of ours (an iterator) has turned -/
theorem Inv.turned {t' : Nat} {it : Addr} (I : Inv X pins σ H s) (k : ∀ b o, b ≠ it → s.heap.get? b = some o → h'.get? b = some o) (hn : H it = none) (hL : it ≠ X.env.locals)
    (h1 : it ∈ X.ex ∨ X.s₀.heap.objs.size ≤ it) (h2 : ∀ x c, X.env.cells.lookup x = some c → c ≠ it) (h3 : ∀ p ∈ X.pn ++ pins, p.1 ≠ it) : Inv X pins σ H { s with heap := h', toks := t' } := by
  have nit : ∀ b u, H b = some u → b ≠ it := fun b u e z => by rw [z, hn] at e; cases e
  refine I.step (g' := s.gens) (d' := s.drawn) (ch := [it]) (fun b hb => ?_) (fun b o _ _ hc e _ => k b o (fun z => hc (by simp [z])) e) (fun b o _ _ hc e _ => ⟨o.slots, k b o (fun z => hc (by simp [z])) e⟩) (fun _ _ _ _ n => n)
    (fun b o hc e => ⟨o, k b o (fun z => hc (by simp [z])) e⟩) (fun _ _ e => e) (fun _ _ _ e => e) (fun b ps e => ⟨#[], by rw [e]; simp⟩) (fun m hm => ?_) (fun b u e => ?_) I.bare
  · have e : b = it := by simpa using hb
    subst e
    exact ⟨h1, hL, h2, h3⟩
  · obtain ⟨o, es, ep, ho, r⟩ := hm
    exact ⟨o, es, ep, k _ o (Ne.symm hL) ho, r⟩
  · refine (I.hok b u e).stay (fun c v hc q => k c v ?_ q) (fun _ q => q) fun _ _ q => q
    rcases hc with z | z
    · rw [z]; exact nit b u e
    · exact nit c _ z
theorem Inv.tok (I : Inv X pins σ H s) (t : Nat) : Inv X pins σ H { s with toks := t } := I.un (h' := s.heap) (t' := t) Un.refl I.hok
/-- all objects kept -/
theorem Inv.kept {t' : Nat} (I : Inv X pins σ H s) (k : ∀ b u, s.heap.get? b = some u → h'.get? b = some u) : Inv X pins σ H { s with heap := h', toks := t' } := I.un (Un.kept k) (I.hok.kept k)
/-- a new object laid and tracked -/
theorem Inv.laid {a : Addr} {o : HO} {t' : Nat} (I : Inv X pins σ H s) (k : ∀ b u, s.heap.get? b = some u → h'.get? b = some u) (hp : s.heap.objs.size ≤ a) (new : ObjOk X.prog X.w (upd H a o) h' a o) :
    Inv X pins σ (upd H a o) { s with heap := h', toks := t' } := I.un (Un.laid k hp (I.hok.fresh hp)) (I.hok.laid k hp new)
/-- an object written -/
theorem Inv.write {x e : Addr} {o : HO} {t' : Nat} (I : Inv X pins σ H s) (mu : Mut (H x)) (he : e = x ∨ H e = some (.own x)) (k : ∀ b u, b ≠ e → s.heap.get? b = some u → h'.get? b = some u) (heo : ∃ u, h'.get? e = some u)
    (new : ObjOk X.prog X.w (upd H x o) h' x o) : Inv X pins σ (upd H x o) { s with heap := h', toks := t' } := I.un (Un.write mu he k heo) (I.hok.write mu he k heo new)
theorem Inv.pins_of {pins' : List (Addr × Obj)} (I : Inv X pins σ H s) (h : ∀ p ∈ pins', s.heap.get? p.1 = some p.2 ∧ H p.1 = none ∧ p.1 ≠ X.env.locals ∧ p.1 ∉ X.fs ∧ ∀ v, p.2.data ≠ .cell v) : Inv X pins' σ H s :=
  ⟨I.ok, I.os, I.bare, I.base, I.loc, I.cell, I.free, I.freeC, fun p hp => (List.mem_append.mp hp).elim (fun z => I.pin p (List.mem_append_left _ z)) (h p), I.hok, I.len⟩

theorem nodup_ix {N : List Str} (hN : N.Nodup) {i j : Nat} {x : Str} (a : N[i]? = some x) (b : N[j]? = some x) : i = j := by
  obtain ⟨h1, e1⟩ := List.getElem?_eq_some_iff.mp a
  obtain ⟨h2, e2⟩ := List.getElem?_eq_some_iff.mp b
  exact (List.getElem_inj hN).mp (e1.trans e2.symm)

/-- a name is stored; what changed -/
theorem store_ok2 {M : Model} {A : Around} {E : Value → Shared → Prop} {i : Nat} {x : Str} {v : V} {u : Value} {Q : Unit → Shared → Prop} (I : Inv X pins σ H s) (hN : X.N.Nodup) (hi : X.N[i]? = some x) (hx : Loc X.env.scope x) (r : RelV v u)
    (h : ∀ s', Inv X pins (σ.set i (some v)) H s' → (∃ a, Heap.SameBut a s.heap s'.heap ∧ (a = X.env.locals ∨ X.env.cells.lookup x = some a)) → Q () s') (hf : X.fn x = true ∨ X.env.scope.names.lookup x = some .local := by first | exact .inl rfl | exact .inr rfl | assumption) : wpAny M A (storeName X.env x u) Q E s := by
  obtain ⟨m, hn, hl⟩ := id I.loc
  have hcls : (X.env.scope.kind == .class || (X.env.scope.kind == .module && X.env.locals != X.env.globals)) = false := by rw [I.ok.kind]; rfl
  have hiσ : i < σ.length := by rw [I.len]; exact (List.getElem?_eq_some_iff.mp hi).1
  have cne := I.cne
  have tracked : ∀ {a : Addr} {h' : Heap}, (∃ o, s.heap.get? a = some o ∧ H a = none) → Heap.SameBut a s.heap h' → HOk X.prog X.w H h' := fun {a h'} ha hs b ob e => by
    obtain ⟨_, _, hfree⟩ := ha
    refine (I.hok b ob e).stay (fun c w' hc q => (hs.2 c ?_).trans q) (fun _ q => q) fun _ _ q => q
    rintro rfl
    rcases hc with rfl | hc
    · rw [hfree] at e; cases e
    · rw [hfree] at hc; cases hc
  rcases hx with hk | hk
  · refine wpAny_storeName_local hk hn (fun h' hn' hs => ?_) hcls
    obtain ⟨oL, _, _, hoL, _⟩ := id hn
    refine h _ ⟨I.ok, I.os, I.bare, ⟨fun b o e n hb hx => ?_, fun b o e n hb hx => ?_, I.base.free, fun b o e hx => ?_, I.base.tups, I.base.frzs, I.base.tbls⟩, ⟨_, hn', fun j y v' e1 e2 e3 => ?_⟩, fun y c e => ?_, I.free, I.freeC, fun p hp => ?_, tracked ⟨oL, hoL, I.free⟩ hs, by simpa using I.len⟩ ⟨_, hs, .inl rfl⟩
    · exact (hs.2 b (Nat.ne_of_lt (Nat.lt_of_lt_of_le (Heap.lt_size e) I.ok.above))).trans (I.base.keep b o e n hb hx)
    · obtain ⟨sl, e1⟩ := I.base.slot b o e n hb hx
      exact ⟨sl, (hs.2 b (Nat.ne_of_lt (Nat.lt_of_lt_of_le (Heap.lt_size e) I.ok.above))).trans e1⟩
    · obtain ⟨o', e1⟩ := I.base.there b o e hx
      exact ⟨o', (hs.2 b (Nat.ne_of_lt (Nat.lt_of_lt_of_le (Heap.lt_size e) I.ok.above))).trans e1⟩
    · by_cases hj : j = i
      · subst hj
        rw [hi] at e1; cases e1
        rw [List.getElem?_set_self hiσ] at e2
        cases e2
        exact ⟨u, r, .inl ⟨hk, by simp⟩⟩
      · rw [List.getElem?_set_ne (Ne.symm hj)] at e2
        obtain ⟨u', r', q⟩ := hl j y v' e1 e2 e3
        refine ⟨u', r', ?_⟩
        rcases q with ⟨k, e⟩ | ⟨k, c, e, z⟩
        · refine .inl ⟨k, ?_⟩
          have : y ≠ x := fun e => hj (nodup_ix hN e1 (e ▸ hi))
          simp [this, e]
        · exact .inr ⟨k, c, e, z.sameBut hs (cne y c e)⟩
    · obtain ⟨w', z⟩ := I.cell y c e
      exact ⟨w', z.sameBut hs (cne y c e)⟩
    · obtain ⟨e, n, ne, nf, d⟩ := I.pin p hp
      exact ⟨(hs.2 p.1 ne).trans e, n, ne, nf, d⟩
  · have hfn : X.fn x = true := by
      rcases hf with z | z
      · exact z
      · rw [z] at hk; cases hk
    obtain ⟨c, hc⟩ := I.ok.has x (.inl hk)
    obtain ⟨w', z⟩ := I.cell x c hc
    refine wpAny_storeName_cell I.ok.kind hk hc z (fun h' hc' hs => ?_)
    obtain ⟨oc, hoc, hocd⟩ := id z
    refine h { s with heap := h' } ⟨I.ok, I.os, I.bare, ⟨fun b o e n hb hx => ?_, fun b o e n hb hx => ?_, I.base.free, fun b o e hx => ?_, I.base.tups, I.base.frzs, I.base.tbls⟩, ⟨m, hn.sameBut hs (Ne.symm (cne x c hc)), fun j y v' e1 e2 e3 => ?_⟩, fun y c' e => ?_, I.free, I.freeC, fun p hp => ?_, tracked ⟨oc, hoc, I.freeC x c hc⟩ hs, by simpa using I.len⟩ ⟨c, hs, .inr hc⟩
    · exact (hs.2 b (Nat.ne_of_lt (Nat.lt_of_lt_of_le (Heap.lt_size e) (I.ok.cab x c hfn hc)))).trans (I.base.keep b o e n hb hx)
    · obtain ⟨sl, e1⟩ := I.base.slot b o e n hb hx
      exact ⟨sl, (hs.2 b (Nat.ne_of_lt (Nat.lt_of_lt_of_le (Heap.lt_size e) (I.ok.cab x c hfn hc)))).trans e1⟩
    · obtain ⟨o', e1⟩ := I.base.there b o e hx
      exact ⟨o', (hs.2 b (Nat.ne_of_lt (Nat.lt_of_lt_of_le (Heap.lt_size e) (I.ok.cab x c hfn hc)))).trans e1⟩
    · by_cases hj : j = i
      · subst hj
        rw [hi] at e1; cases e1
        rw [List.getElem?_set_self hiσ] at e2
        cases e2
        exact ⟨u, r, .inr ⟨.inl hk, c, hc, hc'⟩⟩
      · rw [List.getElem?_set_ne (Ne.symm hj)] at e2
        obtain ⟨u', r', q⟩ := hl j y v' e1 e2 e3
        refine ⟨u', r', ?_⟩
        rcases q with q | ⟨k, c', e, z'⟩
        · exact .inl q
        · refine .inr ⟨k, c', e, z'.sameBut hs ?_⟩
          rintro rfl
          exact hj (nodup_ix hN e1 (I.ok.inj _ _ _ e hc ▸ hi))
    · by_cases hcc : c' = c
      · subst hcc; exact ⟨_, hc'⟩
      · obtain ⟨w2, z2⟩ := I.cell y c' e
        exact ⟨w2, z2.sameBut hs hcc⟩
    · obtain ⟨e, n, ne, nf, d⟩ := I.pin p hp
      refine ⟨(hs.2 p.1 ?_).trans e, n, ne, nf, d⟩
      intro q
      rw [q, hoc] at e
      have q' : oc = p.2 := Option.some.inj e
      exact d w' (by rw [← q']; exact hocd)
theorem store_ok {M : Model} {A : Around} {E : Value → Shared → Prop} {i : Nat} {x : Str} {v : V} {u : Value} {Q : Unit → Shared → Prop} (I : Inv X pins σ H s) (hN : X.N.Nodup) (hi : X.N[i]? = some x) (hx : Loc X.env.scope x) (r : RelV v u)
    (h : ∀ s', Inv X pins (σ.set i (some v)) H s' → Q () s') (hf : X.fn x = true ∨ X.env.scope.names.lookup x = some .local := by first | exact .inl rfl | exact .inr rfl | assumption) : wpAny M A (storeName X.env x u) Q E s :=
  store_ok2 I hN hi hx r (fun s' I' _ => h s' I') hf
end

/-! ### the judgements -/
/-- an exception: its class, its own dict's address (where it has one), the abstract heap behind it -/
abbrev XK := Value → Option Addr → Hp → Prop
abbrev St := List (Option V)
abbrev VK := V → Hp → Prop
/-- an expression's reading; a test's; an argument list's -/
abbrev TE := St → Hp → VK → Prop
abbrev TT := St → Hp → (Bool → Hp → Prop) → Prop
abbrev TA := St → Hp → (List V → Hp → Prop) → Prop
/-- what is wanted behind a statement -/
structure Ends where
  nx : St → Hp → Prop
  rt : VK
  bk : St → Hp → Prop := fun _ _ => False
  ct : St → Hp → Prop := fun _ _ => False
abbrev TS := Ends → St → Hp → Prop

def EP (X : Cx) (pins : List (Addr × Obj)) (σ : St) (Q : VK) (u : Value) (s' : Shared) : Prop := ∃ v H', Inv X pins σ H' s' ∧ RelV v u ∧ Q v H'
def TP (X : Cx) (pins : List (Addr × Obj)) (σ : St) (Q : Bool → Hp → Prop) (b : Bool) (s' : Shared) : Prop := ∃ H', Inv X pins σ H' s' ∧ Q b H'
def AP (X : Cx) (pins : List (Addr × Obj)) (σ : St) (Q : List V → Hp → Prop) (us : List Value) (s' : Shared) : Prop := ∃ vs H', Inv X pins σ H' s' ∧ Vals vs us ∧ Q vs H'
def SP (X : Cx) (pins : List (Addr × Obj)) (D : Ends) (f : Flow) (s' : Shared) : Prop :=
  match f with
  | .next => ∃ σ' H', Inv X pins σ' H' s' ∧ D.nx σ' H'
  | .brk => ∃ σ' H', Inv X pins σ' H' s' ∧ D.bk σ' H'
  | .cont => ∃ σ' H', Inv X pins σ' H' s' ∧ D.ct σ' H'
  | .ret u => ∃ v σ' H', Inv X pins σ' H' s' ∧ RelV v u ∧ D.rt v H'

def PE (X : Cx) (e : Expr) (t : TE) : Prop :=
  ∀ (pins : List (Addr × Obj)) (s : Shared) (σ : St) (H : Hp) (Q : VK), Inv X pins σ H s → t σ H Q → wpAny (model X.prog X.w) X.A (eval e X.env) (EP X pins σ Q) X.xe s
def PT (X : Cx) (e : Expr) (t : TT) : Prop :=
  ∀ (pins : List (Addr × Obj)) (s : Shared) (σ : St) (H : Hp) (Q : Bool → Hp → Prop), Inv X pins σ H s → t σ H Q → wpAny (model X.prog X.w) X.A (isTrue e X.env (eval e X.env)) (TP X pins σ Q) X.xe s
/-- a test whatever its 'whole' is (and, or) -/
def PW (X : Cx) (e : Expr) (t : TT) : Prop :=
  ∀ (whole : Sem Value) (pins : List (Addr × Obj)) (s : Shared) (σ : St) (H : Hp) (Q : Bool → Hp → Prop), Inv X pins σ H s → t σ H Q → wpAny (model X.prog X.w) X.A (isTrue e X.env whole) (TP X pins σ Q) X.xe s
theorem PW.pt {X : Cx} {e : Expr} {t : TT} (h : PW X e t) : PT X e t := h _
/-- an argument list (no star), from the left -/
def PA (X : Cx) (es : List Expr) (t : TA) : Prop :=
  ∀ (pos : Pos) (pins : List (Addr × Obj)) (s : Shared) (σ : St) (H : Hp) (Q : List V → Hp → Prop), Inv X pins σ H s → t σ H Q → wpAny (model X.prog X.w) X.A (spliced (backTo pos (starEach es X.env))) (AP X pins σ Q) X.xe s
def PS (X : Cx) (st : Stmt) (t : TS) : Prop :=
  ∀ (pins : List (Addr × Obj)) (s : Shared) (σ : St) (H : Hp) (D : Ends), Inv X pins σ H s → t D σ H → wpAny (model X.prog X.w) X.A (exec st X.env) (SP X pins D) X.xe s
def PSs (X : Cx) (st : List Stmt) (t : TS) : Prop :=
  ∀ (pins : List (Addr × Obj)) (s : Shared) (σ : St) (H : Hp) (D : Ends), Inv X pins σ H s → t D σ H → wpAny (model X.prog X.w) X.A (execs st X.env) (SP X pins D) X.xe s
/-- weaken the end -/
theorem thn {α : Type} {t : Sem α} {Q Q' : α → Shared → Prop} {M : Model} {A : Around} {E : Value → Shared → Prop} {s : Shared} (h : wpAny M A t Q E s) (hQ : ∀ a s, Q a s → Q' a s) : wpAny M A t Q' E s := wpAny_mono h hQ fun _ _ x => x
end L2

namespace L2
open PySem PySem.Spec PyProof.Rows
section
variable {X : Cx}

/-- two expressions in a row -/
theorem bin {a b : Expr} {ta tb : TE} (ha : PE X a ta) (hb : PE X b tb) {pins : List (Addr × Obj)} {s : Shared} {σ : St} {H : Hp} {R : V → V → Hp → Prop} (I : Inv X pins σ H s) (h : ta σ H fun x H1 => tb σ H1 fun y H2 => R x y H2)
    {α : Type} {Q : α → Shared → Prop} {f : Value → Value → Sem α}
    (hf : ∀ v u s2 x y H2, Inv X pins σ H2 s2 → RelV x v → RelV y u → R x y H2 → wpAny (model X.prog X.w) X.A (f v u) Q X.xe s2) :
    wpAny (model X.prog X.w) X.A (eval a X.env) (fun v s₁ => wpAny (model X.prog X.w) X.A (eval b X.env) (fun u s₂ => wpAny (model X.prog X.w) X.A (f v u) Q X.xe s₂) X.xe s₁) X.xe s := by
  refine thn (ha pins s σ H _ I h) fun v s1 ⟨x, H1, I1, r1, q1⟩ => ?_
  refine thn (hb pins s1 σ H1 _ I1 q1) fun u s2 ⟨y, H2, I2, r2, q2⟩ => ?_
  exact hf v u s2 x y H2 I2 r1 r2 q2

/-! ### names and constants -/
def tVar (i : Nat) : TE := fun σ H Q => ∃ v, σ[i]? = some (some v) ∧ Q v H
def tC (v : V) : TE := fun _ H Q => Q v H
theorem pe_var {i : Nat} {x : Str} {pos : Pos} (hN : X.N[i]? = some x) (hv : Vis X.env.scope x) (hd : (x == ("__debug__" : Str)) = false := by decide) (hcd : (x == ("__classdict__" : Str)) = false := by decide) : PE X (.Name x pos) (tVar i) := by
  intro pins s σ H Q I h
  obtain ⟨v, e, h⟩ := h
  obtain ⟨m, hn, hl⟩ := I.loc
  obtain ⟨u, r, l⟩ := hl i x v hN e hv
  have fin : EP X pins σ Q u s := ⟨v, H, I, r, h⟩
  rcases l with ⟨hk, hm⟩ | ⟨hk, c, hc, hcell⟩
  · exact wpAny_Name (wpAny_loadName_local I.ok.kind hk hn hm fin) hd
  · rcases hk with hk | hk
    · exact wpAny_Name (wpAny_loadName_cell I.ok.kind hk hc hcell fin) hd
    · exact wpAny_Name (wpAny_loadName_free I.ok.kind hk hc hcell fin hcd) hd
theorem pe_int {i j pos} : PE X (.Constant (.int i) j pos) (tC (.int i)) := fun _ _ _ H _ I h => wpAny_Constant_int ⟨.int i, H, I.tok _, ⟨_, rfl⟩, h⟩
theorem pe_bl {b j pos} : PE X (.Constant (.bool b) j pos) (tC (.bl b)) := fun _ _ _ H _ I h => Constant_bool ⟨.bl b, H, I, rfl, h⟩
theorem pe_str {x j pos} : PE X (.Constant (.str x) j pos) (tC (.str x)) := fun _ _ _ H _ I h => Calls.Constant_str ⟨.str x, H, I.tok _, ⟨_, rfl⟩, h⟩

/-- a global name of the def -/
def Gl (X : Cx) (x : Str) : Prop := X.env.kindOf x = some .globalImplicit
theorem ld_glob {E : Value → Shared → Prop} {pins : List (Addr × Obj)} {s : Shared} {σ : St} {H : Hp} {x : Str} {u : Value} {pos : Pos} {Q : Value → Shared → Prop} (I : Inv X pins σ H s) (hg : Gl X x) (hm : X.mg x = some u) (h : Q u s)
    (hd : (x == ("__debug__" : Str)) = false := by decide) : wpAny (model X.prog X.w) X.A (eval (.Name x pos) X.env) Q E s :=
  Calls.Name_function_global I.ok.kind hg (Calls.loadGlobal_global (by rw [I.ok.glob]; exact I.mod.glob.keeps I.bk) hm h) hd
theorem ld_blt {E : Value → Shared → Prop} {pins : List (Addr × Obj)} {s : Shared} {σ : St} {H : Hp} {x : Str} {u : Value} {pos : Pos} {Q : Value → Shared → Prop} (I : Inv X pins σ H s) (hg : Gl X x) (hm : X.mg x = none) (hv : bootBuiltins x = some u) (h : Q u s)
    (hn : x ≠ "__name__" := by decide) (hd : (x == ("__debug__" : Str)) = false := by decide) : wpAny (model X.prog X.w) X.A (eval (.Name x pos) X.env) Q E s := by
  obtain ⟨mb, h1, h2⟩ := I.mod.blt
  exact Calls.Name_function_global I.ok.kind hg (Calls.loadGlobal_builtin (by rw [I.ok.glob]; exact I.mod.glob.keeps I.bk) hm (by rw [I.ok.blt]; exact h1.keeps I.bk) ((h2 x hn).trans hv) h) hd
/-- a module's constant, a class, a function, as a value -/
theorem pe_glob {x : Str} {v : V} {u : Value} {pos : Pos} (hg : Gl X x) (hm : X.mg x = some u) (r : RelV v u) (hd : (x == ("__debug__" : Str)) = false := by decide) : PE X (.Name x pos) (tC v) :=
  fun _ _ _ H _ I h => ld_glob I hg hm ⟨v, H, I, r, h⟩ hd
theorem pe_bltn {x : Str} {v : V} {u : Value} {pos : Pos} (hg : Gl X x) (hm : X.mg x = none) (hv : bootBuiltins x = some u) (r : RelV v u) (hn : x ≠ "__name__" := by decide) (hd : (x == ("__debug__" : Str)) = false := by decide) : PE X (.Name x pos) (tC v) :=
  fun _ _ _ H _ I h => ld_blt I hg hm hv ⟨v, H, I, r, h⟩ hn hd

/-! ### arithmetic -/
variable {a b : Expr} {ta tb : TE} {pos : Pos}
/-! ### comparisons -/
/-! ### and, or, not -/
variable {tA tB' : TT} {rest : List Expr}
def tAnd (t u : TT) : TT := fun σ H Q => t σ H fun c H1 => if c = true then u σ H1 Q else Q false H1
def tOr (t u : TT) : TT := fun σ H Q => t σ H fun c H1 => if c = true then Q true H1 else u σ H1 Q
def tNot (t : TT) : TT := fun σ H Q => t σ H fun c H1 => Q (!c) H1
theorem pw_and1 (ha : PT X a tA) : PW X (.BoolOp .And [a] pos) tA := by
  intro wh pins s σ H Q I h
  refine isTrue_and (thn (ha pins s σ H Q I h) fun c s1 e => ?_)
  cases c with
  | true => exact isTrue_and_nil e
  | false => exact e
theorem pw_or1 (ha : PT X a tA) : PW X (.BoolOp .Or [a] pos) tA := by
  intro wh pins s σ H Q I h
  refine isTrue_or (thn (ha pins s σ H Q I h) fun c s1 e => ?_)
  cases c with
  | false => exact isTrue_or_nil e
  | true => exact e
theorem pw_and (ha : PT X a tA) (hb : PW X (.BoolOp .And (b :: rest) pos) tB') : PW X (.BoolOp .And (a :: b :: rest) pos) (tAnd tA tB') := by
  intro wh pins s σ H Q I h
  refine isTrue_and (thn (ha pins s σ H _ I h) fun c s1 ⟨H1, I1, q1⟩ => ?_)
  cases c with
  | true => exact hb wh pins s1 σ H1 Q I1 q1
  | false => exact ⟨H1, I1, q1⟩
theorem pw_or (ha : PT X a tA) (hb : PW X (.BoolOp .Or (b :: rest) pos) tB') : PW X (.BoolOp .Or (a :: b :: rest) pos) (tOr tA tB') := by
  intro wh pins s σ H Q I h
  refine isTrue_or (thn (ha pins s σ H _ I h) fun c s1 ⟨H1, I1, q1⟩ => ?_)
  cases c with
  | true => exact ⟨H1, I1, q1⟩
  | false => exact hb wh pins s1 σ H1 Q I1 q1
theorem pt_not (ha : PT X a tA) : PT X (.UnaryOp .Not a pos) (tNot tA) := by
  intro pins s σ H Q I h
  exact isTrue_not (ha pins s σ H (fun c H1 => Q (!c) H1) I h)
theorem pe_one {op} {t : TE} (h : PE X a t) : PE X (.BoolOp op [a] pos) t := fun pins s σ H Q I hw => BoolOp_one (h pins s σ H Q I hw)
/-- a if t else b -/
def tIf (t : TT) (ta tb : TE) : TE := fun σ H Q => t σ H fun c H1 => if c = true then ta σ H1 Q else tb σ H1 Q
theorem pe_ifExp {c : Expr} (hc : PT X c tA) (ha : PE X a ta) (hb : PE X b tb) : PE X (.IfExp c a b pos) (tIf tA ta tb) := by
  intro pins s σ H Q I h
  refine wpAny_IfExp (thn (hc pins s σ H _ I h) fun d s1 ⟨H1, I1, q1⟩ => ?_)
  cases d with
  | true => exact ha pins s1 σ H1 Q I1 q1
  | false => exact hb pins s1 σ H1 Q I1 q1
end
end L2

namespace L2
open PySem PySem.Spec PyProof.Rows

/-! ### a list, a tuple that is read: tracked, frozen, or an object of the module -/
def SqL (K : PySem.W.Frag) (H : Hp) (a : Addr) (xs : List V) : Prop :=
  Rd H a (.lst xs) ∨
    ∃ (o : Obj) (its : Array Value) (n : Nat), K.lookup a = some o ∧ o.cls = .type "list" ∧ o.dict = none ∧ o.data = .seq its n ∧ its.size ≤ sizeLine ∧ Vals xs its.toList
def SqT (K : PySem.W.Frag) (H : Hp) (a : Addr) (xs : List V) : Prop :=
  Rd H a (.tup xs) ∨
    ∃ (o : Obj) (its : Array Value) (n : Nat), K.lookup a = some o ∧ o.cls = .type "tuple" ∧ o.data = .seq its n ∧ its.size ≤ sizeLine ∧ Vals xs its.toList
def absV : Value → Option V
  | .none => some .non
  | .bool b => some (.bl b)
  | .int i _ => some (.int i)
  | .str x _ => some (.str x)
  | .bytes b _ => some (.byt b)
  | .float b _ => some (.flt b)
  | .ref a => some (.ref a)
  | .type n => some (.ty n)
  | _ => none
theorem RelV.abs {x : V} {u : Value} (r : RelV x u) : absV u = some x := by
  cases x with
  | non => cases r; rfl
  | bl _ => cases r; rfl
  | int _ => obtain ⟨t, rfl⟩ := r; rfl
  | str _ => obtain ⟨t, rfl⟩ := r; rfl
  | byt _ => obtain ⟨t, rfl⟩ := r; rfl
  | flt _ => obtain ⟨t, rfl⟩ := r; rfl
  | ref _ => cases r; rfl
  | ty _ => cases r; rfl
theorem RelV.inj {x y : V} {u : Value} (r : RelV x u) (q : RelV y u) : x = y := Option.some.inj (r.abs.symm.trans q.abs)
theorem Vals.inj : ∀ {xs ys : List V} {us : List Value}, Vals xs us → Vals ys us → xs = ys
  | _, _, _, .nil, .nil => rfl
  | _, _, _, .cons r t, .cons r' t' => by rw [r.inj r', Vals.inj t t']
section
variable {X : Cx} {pins : List (Addr × Obj)} {σ : St} {H : Hp} {s : Shared} {a : Addr} {xs ys : List V}
theorem SqL.of {K : PySem.W.Frag} (h : H a = some (.lst xs)) : SqL K H a xs := .inl (.inl h)
theorem SqT.of {K : PySem.W.Frag} (h : H a = some (.tup xs)) : SqT K H a xs := .inl (.inl h)
theorem Inv.list (I : Inv X pins σ H s) (h : SqL X.K H a xs) : ∃ its : List Value, Vals xs its ∧ PlainL s.heap a its.toArray ∧ xs.length ≤ sizeLine := by
  rcases h with h | ⟨o, its, n, hk, hc, hd, hs, hz, r⟩
  · obtain ⟨z, its, n, r, e⟩ := h.ok I.hok
    exact ⟨its, r, ⟨_, n, e, rfl, rfl, rfl⟩, z⟩
  · refine ⟨its.toList, r, ⟨o, n, I.kIn a o hk, hc, hd, by simpa using hs⟩, ?_⟩
    have e := r.length
    simp only [Array.length_toList] at e
    omega
theorem Inv.tuple (I : Inv X pins σ H s) (h : SqT X.K H a xs) : ∃ its : List Value, Vals xs its ∧ IsTup s.heap a its.toArray ∧ xs.length ≤ sizeLine := by
  rcases h with h | ⟨o, its, n, hk, hc, hs, hz, r⟩
  · obtain ⟨z, its, r, p⟩ := h.ok I.hok
    exact ⟨its, r, p, z⟩
  · refine ⟨its.toList, r, ⟨o, I.kIn a o hk, hc, n, by simpa using hs⟩, ?_⟩
    have e := r.length
    simp only [Array.length_toList] at e
    omega
theorem Inv.list_inj (I : Inv X pins σ H s) (h : SqL X.K H a xs) (h' : SqL X.K H a ys) : xs = ys := by
  obtain ⟨its, r, ⟨o, n, e, _, _, d⟩, _⟩ := I.list h
  obtain ⟨its', r', ⟨o', n', e', _, _, d'⟩, _⟩ := I.list h'
  rw [e] at e'; cases e'
  rw [d] at d'
  injection d' with d1 _
  have : its = its' := by simpa using congrArg Array.toList d1
  subst this
  exact r.inj r'
theorem Inv.tuple_inj (I : Inv X pins σ H s) (h : SqT X.K H a xs) (h' : SqT X.K H a ys) : xs = ys := by
  obtain ⟨its, r, ⟨o, e, _, n, d⟩, _⟩ := I.tuple h
  obtain ⟨its', r', ⟨o', e', _, n', d'⟩, _⟩ := I.tuple h'
  rw [e] at e'; cases e'
  rw [d] at d'
  injection d' with d1 _
  have : its = its' := by simpa using congrArg Array.toList d1
  subst this
  exact r.inj r'
end

/-! ### another wish about exceptions -/
abbrev Cx.wish (X : Cx) (E : Value → Shared → Prop) : Cx := { X with xe := E }
/-- no exception leaves -/
abbrev Cx.nox (X : Cx) : Cx := X.wish fun _ _ => False
theorem Cx.Ok.wish {X : Cx} (ok : X.Ok) (E : Value → Shared → Prop) : (X.wish E).Ok :=
  ⟨ok.mod, ok.kind, ok.glob, ok.blt, ok.above, ok.inj, ok.has, ok.cab, ok.hd, ok.frames, ok.stk, ok.exf, ok.bs, ok.bsz, ok.noex, ok.exfs, ok.funs, ok.frf⟩
theorem Cx.Ok.unwish {X : Cx} {E : Value → Shared → Prop} (ok : (X.wish E).Ok) : X.Ok :=
  ⟨ok.mod, ok.kind, ok.glob, ok.blt, ok.above, ok.inj, ok.has, ok.cab, ok.hd, ok.frames, ok.stk, ok.exf, ok.bs, ok.bsz, ok.noex, ok.exfs, ok.funs, ok.frf⟩
section
variable {X : Cx} {pins : List (Addr × Obj)} {σ : St} {H : Hp} {s : Shared} {E : Value → Shared → Prop}
theorem Inv.wish (I : Inv X pins σ H s) (E : Value → Shared → Prop) : Inv (X.wish E) pins σ H s := ⟨I.ok.wish E, I.os, I.bare, I.base, I.loc, I.cell, I.free, I.freeC, I.pin, I.hok, I.len⟩
theorem Inv.unwish (I : Inv (X.wish E) pins σ H s) : Inv X pins σ H s := ⟨I.ok.unwish, I.os, I.bare, I.base, I.loc, I.cell, I.free, I.freeC, I.pin, I.hok, I.len⟩
theorem SP.unwish {D : Ends} {f : Flow} {s' : Shared} (h : SP (X.wish E) pins D f s') : SP X pins D f s' := by
  cases f with
  | next => obtain ⟨σ', H', I, q⟩ := h; exact ⟨σ', H', I.unwish, q⟩
  | brk => obtain ⟨σ', H', I, q⟩ := h; exact ⟨σ', H', I.unwish, q⟩
  | cont => obtain ⟨σ', H', I, q⟩ := h; exact ⟨σ', H', I.unwish, q⟩
  | ret u => obtain ⟨v, σ', H', I, r, q⟩ := h; exact ⟨v, σ', H', I.unwish, r, q⟩
theorem PSs.nox {st : List Stmt} {t : TS} (h : PSs X.nox st t) : PSs X st t := fun pins s σ H D I hw =>
  wpAny_mono (h pins s σ H D (I.wish _) hw) (fun _ _ q => q.unwish) fun _ _ z => False.elim z
end

/-! ### blocks and small statements -/
section
variable {X : Cx} {st : Stmt} {rest : List Stmt} {t u : TS} {e : Expr} {te : TE} {pos : Pos}
def tNext : TS := fun D σ H => D.nx σ H
def tSeq (t u : TS) : TS := fun D σ H => t { D with nx := u D } σ H
theorem pss_nil : PSs X [] tNext := fun _ _ σ H _ I h => wpAny_execs_nil ⟨σ, H, I, h⟩
theorem pss_cons (h1 : PS X st t) (h2 : PSs X rest u) : PSs X (st :: rest) (tSeq t u) := by
  intro pins s σ H D I h
  refine wpAny_execs_cons (thn (h1 pins s σ H { D with nx := u D } I h) fun f s1 q => ?_)
  cases f with
  | next =>
    obtain ⟨σ', H', I', q⟩ := q
    exact h2 pins s1 σ' H' D I' q
  | ret v => exact q
  | brk => exact q
  | cont => exact q
theorem pss_one (h1 : PS X st t) : PSs X [st] t := by
  intro pins s σ H D I h
  refine wpAny_execs_cons (thn (h1 pins s σ H D I h) fun f s1 q => ?_)
  cases f with
  | next => exact wpAny_execs_nil q
  | ret v => exact q
  | brk => exact q
  | cont => exact q
/-- in a def's body nothing is shown -/
theorem Inv.quiet {pins : List (Addr × Obj)} {σ : St} {H : Hp} {s : Shared} (I : Inv X pins σ H s) : interactive X.env = false := by simp [interactive, I.ok.kind]
/-- an expression whose value is dropped -/
def tDrop (te : TE) : TS := fun D σ H => te σ H fun _ H1 => D.nx σ H1
theorem ps_expr (he : PE X e te) (hs : swapsWith e none pos.line X.env = pure false := by rfl) : PS X (.Expr e pos) (tDrop te) := by
  intro pins s σ H D I h
  exact wpAny_Expr_any (thn (he pins s σ H _ I h) fun v s1 ⟨x, H1, I1, r1, q1⟩ => ⟨σ, H1, I1, q1⟩) I.quiet hs
def tRet (te : TE) : TS := fun D σ H => te σ H D.rt
theorem ps_ret (he : PE X e te) : PS X (.Return (some e) pos) (tRet te) := by
  intro pins s σ H D I h
  exact wpAny_Return_some (thn (he pins s σ H _ I h) fun v s1 ⟨x, H1, I1, r1, q1⟩ => ⟨x, σ, H1, I1, r1, q1⟩)
def tIfS (c : TT) (t u : TS) : TS := fun D σ H => c σ H fun b H1 => if b = true then t D σ H1 else u D σ H1
theorem ps_if {c : Expr} {a b : List Stmt} {tc : TT} (hc : PT X c tc) (ha : PSs X a t) (hb : PSs X b u) : PS X (.If c a b pos) (tIfS tc t u) := by
  intro pins s σ H D I h
  refine wpAny_If (thn (hc pins s σ H _ I h) fun d s1 ⟨H1, I1, q1⟩ => ?_)
  cases d with
  | true => exact ha pins s1 σ H1 D I1 q1
  | false => exact hb pins s1 σ H1 D I1 q1
/-- code that the proof never comes to -/
def tNever : TS := fun _ _ _ => False
theorem ps_never : PS X st tNever := fun _ _ _ _ _ _ h => h.elim
end

/-! ### targets -/
abbrev TG := V → St → Hp → (St → Hp → Prop) → Prop
abbrev TGs := List V → St → Hp → (St → Hp → Prop) → Prop
def PG (X : Cx) (target : Expr) (t : TG) : Prop :=
  ∀ (pins : List (Addr × Obj)) (s : Shared) (σ : St) (H : Hp) (v : V) (u : Value) (Q : St → Hp → Prop), Inv X pins σ H s → RelV v u → t v σ H Q →
    wpAny (model X.prog X.w) X.A (assign target X.env u) (fun _ s' => ∃ σ' H', Inv X pins σ' H' s' ∧ Q σ' H') X.xe s
/-- several targets, one after another -/
def PGs (X : Cx) (ts : List Expr) (t : TGs) : Prop :=
  ∀ (pins : List (Addr × Obj)) (s : Shared) (σ : St) (H : Hp) (vs : List V) (us : List Value) (Q : St → Hp → Prop), Inv X pins σ H s → Vals vs us → t vs σ H Q →
    wpAny (model X.prog X.w) X.A (assignInOrder ((assignEach ts X.env).map (·.2)) us) (fun _ s' => ∃ σ' H', Inv X pins σ' H' s' ∧ Q σ' H') X.xe s
/-- o[i] = v, by values -/
abbrev TSet := V → V → V → Hp → (Hp → Prop) → Prop
def PSet (X : Cx) (t : TSet) : Prop :=
  ∀ (pins : List (Addr × Obj)) (s : Shared) (σ : St) (H : Hp) (o i v : V) (ov iv u : Value) (Q : Hp → Prop), Inv X pins σ H s → RelV o ov → RelV i iv → RelV v u → t o i v H Q →
    wpAny (model X.prog X.w) X.A (setItem ov iv u) (fun _ s' => ∃ H', Inv X pins σ H' s' ∧ Q H') X.xe s
section
variable {X : Cx} {pos : Pos}
def gName (i : Nat) : TG := fun v σ H Q => Q (σ.set i (some v)) H
theorem pg_name {i : Nat} {x : Str} (hN : X.N.Nodup) (hi : X.N[i]? = some x) (hx : Loc X.env.scope x) (hf : X.fn x = true ∨ X.env.scope.names.lookup x = some .local := by first | exact .inl rfl | exact .inr rfl | assumption) : PG X (.Name x pos) (gName i) := by
  intro pins s σ H v u Q I r h
  exact wpAny_assign_Name (store_ok I hN hi hx r (fun s' I' => ⟨_, H, I', h⟩) hf)
def gNil : TGs := fun vs σ H Q => vs = [] ∧ Q σ H
def gCons (t : TG) (u : TGs) : TGs := fun vs σ H Q => ∃ v r, vs = v :: r ∧ t v σ H fun σ' H' => u r σ' H' Q
theorem pgs_nil : PGs X [] gNil := by
  intro pins s σ H vs us Q I r h
  obtain ⟨e, h⟩ := h
  subst e
  cases r
  exact assignInOrder_nil ⟨σ, H, I, h⟩
theorem pgs_cons {e : Expr} {es : List Expr} {t : TG} {u : TGs} (h1 : PG X e t) (h2 : PGs X es u)
    (hs : (assignEach (e :: es) X.env).map (·.2) = assign e X.env :: (assignEach es X.env).map (·.2) := by rfl) : PGs X (e :: es) (gCons t u) := by
  intro pins s σ H vs us Q I r h
  obtain ⟨v, vr, e1, h⟩ := h
  subst e1
  cases r with
  | cons r rr =>
    rw [hs]
    refine assignInOrder_cons (thn (h1 pins s σ H _ _ _ I r h) fun _ s1 ⟨σ1, H1, I1, q1⟩ => ?_)
    exact h2 pins s1 σ1 H1 _ _ Q I1 rr q1
/-- (a, b, ..) = a tuple of that length -/
def gTup (K : PySem.W.Frag) (n : Nat) (t : TGs) : TG := fun v σ H Q => ∃ a xs, v = .ref a ∧ SqT K H a xs ∧ xs.length = n ∧ t xs σ H Q
theorem pg_tup {es : List Expr} {k : Nat} {t : TGs} {n : Nat} (hc : X.calm = true) (h : PGs X es t)
    (hn : (assignEach es X.env).length = n := by rfl) (hst : (assignEach es X.env).findIdx? (·.1) = none := by rfl) : PG X (.Tuple es k pos) (gTup X.K n t) := by
  intro pins s σ H v u Q I r hw
  obtain ⟨a, xs, e1, hq, hl, hw⟩ := hw
  subst e1
  cases r
  obtain ⟨its, rv, ht, hz⟩ := I.tuple hq
  refine assign_Tuple_tuple (I.ok.hd hc) ht (by simp [hn, ← hl, rv.length]) hst fun h' hx => ?_
  have I1 : Inv X pins σ H { s with heap := h' } := I.kept (t' := s.toks) fun b o e => hx b o (Nat.ne_of_lt (Heap.lt_size e)) e
  exact h pins _ σ H xs _ Q I1 (by simpa using rv) hw
/-- o[i] = .. -/
def gSub (to ti : TE) (t : TSet) : TG := fun v σ H Q => to σ H fun o H1 => ti σ H1 fun i H2 => t o i v H2 fun H3 => Q σ H3
theorem pg_sub {o i : Expr} {to ti : TE} {t : TSet} (ho : PE X o to) (hi : PE X i ti) (hs : PSet X t)
    (ha : ∀ v, assign (.Subscript o i pos) X.env v = (do
      let ov ← holding [v] (eval o X.env)
      let iv ← holding [v, ov] (eval i X.env)
      standAt pos
      holding [v, ov, iv] (setItem ov iv v)
      release [v, ov, iv] []) := by intro _; rfl) : PG X (.Subscript o i pos) (gSub to ti t) := by
  intro pins s σ H v u Q I r h
  rw [ha]
  refine wpAny_bind (wpAny_holding (thn (ho pins s σ H _ I h) fun ov s1 ⟨x, H1, I1, r1, q1⟩ => ?_))
  refine wpAny_bind (wpAny_holding (thn (hi pins s1 σ H1 _ I1 q1) fun iv s2 ⟨y, H2, I2, r2, q2⟩ => ?_))
  refine wpAny_bind (wpAny_standAt (wpAny_bind (wpAny_holding (thn (hs pins s2 σ H2 x y v ov iv u _ I2 r1 r2 r q2) fun _ s3 ⟨H3, I3, q3⟩ => ?_))))
  exact wpAny_release ⟨σ, H3, I3, q3⟩
/-- target = value -/
def tAsg (te : TE) (g : TG) : TS := fun D σ H => te σ H fun x H1 => g x σ H1 D.nx
theorem ps_asg {tg e : Expr} {te : TE} {g : TG} (he : PE X e te) (hg : PG X tg g) (hs : swapsWithSole [tg] e pos.line X.env = pure false := by rfl) (hw : swappedStores [tg] e X.env = pure none := by rfl)
    (h1 : (assignEach [tg] X.env).map (·.2) = [assign tg X.env] := by rfl) : PS X (.Assign [tg] e pos) (tAsg te g) := by
  intro pins s σ H D I h
  refine wpAny_Assign_stores (thn (he pins s σ H _ I h) fun v s1 ⟨x, H1, I1, r1, q1⟩ => ?_) hs hw
  rw [h1]
  exact thn (hg pins s1 σ H1 x v _ I1 r1 q1) fun _ s2 q => q
/-- name = value -/
theorem ps_set {i : Nat} {x : Str} {e : Expr} {te : TE} {pos' : Pos} (hN : X.N.Nodup) (hi : X.N[i]? = some x) (hx : Loc X.env.scope x) (he : PE X e te) (hs : swapsWith e (some (.Name x pos')) pos.line X.env = pure false := by rfl) (hf : X.fn x = true ∨ X.env.scope.names.lookup x = some .local := by first | exact .inl rfl | exact .inr rfl | assumption) :
    PS X (.Assign [.Name x pos'] e pos) (tAsg te (gName i)) := by
  intro pins s σ H D I h
  refine wpAny_Assign_Name (thn (he pins s σ H _ I h) fun v s1 ⟨y, H1, I1, r1, q1⟩ => ?_) hs
  exact store_ok I1 hN hi hx r1 (fun s2 I2 => ⟨_, H1, I2, q1⟩) hf
end

/-! ### while -/
section
variable {X : Cx} {pos : Pos}
end

/-! ### what a loop or a comprehension walks -/
/-- at turn i: it yields x (the heap may grow), or it stops -/
structure It where
  go : Nat → Hp → Prop
  yld : Nat → Hp → V → Hp → Prop
  stop : Nat → Hp → Prop
/-- the iterator's own objects may turn: they are not the frame's, not pinned, younger than the entry (or a comprehension's own) -/
def FpOk (X : Cx) (pins : List (Addr × Obj)) (H : Hp) (b : Addr) : Prop :=
  H b = none ∧ b ≠ X.env.locals ∧ b ∉ X.fs ∧ (b ∈ X.ex ∨ X.s₀.heap.objs.size ≤ b) ∧ (∀ x c, X.env.cells.lookup x = some c → c ≠ b) ∧ ∀ p ∈ X.pn ++ pins, p.1 ≠ b
theorem Inv.fpOk {X : Cx} {pins : List (Addr × Obj)} {σ : St} {H H' : Hp} {s : Shared} {b : Addr} (I : Inv X pins σ H s) (hb : s.heap.objs.size ≤ b) (hn : H' b = none) : FpOk X pins H' b := by
  refine ⟨hn, Nat.ne_of_gt (Nat.lt_of_lt_of_le I.lt hb), I.nofs hb, .inr (Nat.le_trans I.sz hb), fun x c e z => ?_, fun p hp z => ?_⟩
  · obtain ⟨v, q⟩ := I.cell x c e
    exact absurd (Nat.lt_of_lt_of_le q.lt (by rw [z]; exact hb)) (Nat.lt_irrefl _)
  · exact absurd (Nat.lt_of_lt_of_le (Heap.lt_size (I.pin p hp).1) (by rw [z]; exact hb)) (Nat.lt_irrefl _)
structure Turn (P : Program) (w : World) (K : PySem.W.Frag) (tg : Expr) (J : It) (fp : List Addr) (it : Addr) (tn : Nat → Heap → Prop) : Prop where
  mem : it ∈ fp
  obj : ∀ i h, tn i h → ∀ b ∈ fp, ∃ o, h.get? b = some o ∧ ∀ v, o.data ≠ .cell v
  keep : ∀ i h h', tn i h → (∀ b ∈ fp, ∀ o, h.get? b = some o → h'.get? b = some o) → tn i h'
  item : ∀ (X : Cx), X.prog = P → X.w = w → X.K = K → X.calm = true → ∀ (i : Nat) (pins : List (Addr × Obj)) (s : Shared) (σ : St) (H : Hp) (E : Value → Shared → Prop), Inv X pins σ H s → (∀ b ∈ fp, FpOk X pins H b) → tn i s.heap → J.go i H →
    wpAny (model P w) X.A (pyNext (.ref it)) (fun r s1 => ∃ u, r = some u ∧
      wpAny (model P w) X.A (letOwnedTupleGo tg (.ref it) u) (fun _ s2 => ∃ x H', Inv X pins σ H' s2 ∧ RelV x u ∧ J.yld i H x H' ∧ tn (i + 1) s2.heap ∧ ∀ b ∈ fp, H' b = none) E s1) E s
  done : ∀ (X : Cx), X.prog = P → X.w = w → X.K = K → X.calm = true → ∀ (i : Nat) (pins : List (Addr × Obj)) (s : Shared) (σ : St) (H : Hp) (E : Value → Shared → Prop), Inv X pins σ H s → (∀ b ∈ fp, FpOk X pins H b) → tn i s.heap → J.stop i H →
    wpAny (model P w) X.A (pyNext (.ref it)) (fun r s1 => r = none ∧ Inv X pins σ H s1) E s
  self : ∀ (A : Around) (i : Nat) (s : Shared) (Q : Value → Shared → Prop) (E : Value → Shared → Prop), tn i s.heap → Q (.ref it) s → wpAny (model P w) A (pyIter (.ref it)) Q E s
abbrev TI := St → Hp → (It → Hp → Prop) → Prop
/-- an iterator has come -/
def PIE (X : Cx) (pins : List (Addr × Obj)) (σ : St) (tg : Expr) (R : It → Hp → Prop) (itv : Value) (s2 : Shared) : Prop :=
  ∃ (it : Addr) (fp : List Addr) (tn : Nat → Heap → Prop) (J : It) (H' : Hp), itv = .ref it ∧ Inv X pins σ H' s2 ∧ Turn X.prog X.w X.K tg J fp it tn ∧ tn 0 s2.heap ∧ (∀ b ∈ fp, FpOk X pins H' b) ∧ R J H'
def PI (X : Cx) (tg iter : Expr) (wi : TI) : Prop :=
  ∀ (pins : List (Addr × Obj)) (s : Shared) (σ : St) (H : Hp) (R : It → Hp → Prop), Inv X pins σ H s → wi σ H R →
    wpAny (model X.prog X.w) X.A (eval iter X.env) (fun v s1 => wpAny (model X.prog X.w) X.A (pyIter v) (PIE X pins σ tg R) X.xe s1) X.xe s

/-- the step ahead of the store is nothing for an iterator that keeps no tuple -/
theorem go_of {M : Model} {A : Around} {E : Value → Shared → Prop} {s : Shared} {tg : Expr} {it : Addr} {u : Value} {o : Obj} {n : String} {vs : Array Value} {Q : Unit → Shared → Prop} (ho : s.heap.get? it = some o) (hc : o.cls = .type n) (hd : o.data = .fields vs)
    (hn : ["enumerate", "zip", "dict_itemiterator", "dict_reverseitemiterator", "odict_iterator", "itertools.zip_longest", "itertools.pairwise"].contains n = false) (hQ : Q () s) : wpAny M A (letOwnedTupleGo tg (.ref it) u) Q E s := by
  unfold letOwnedTupleGo
  cases tg <;> first
    | exact wpAny_pure hQ
    | (cases u <;> first
        | exact wpAny_pure hQ
        | (refine wpAny_bind (wpAny_load ho ?_)
           rw [hc, hd]
           show wpAny M A (if (["enumerate", "zip", "dict_itemiterator", "dict_reverseitemiterator", "odict_iterator", "itertools.zip_longest", "itertools.pairwise"].contains n && vs[0]? == some (rawInt _)) = true then _ else _) Q E s
           rw [if_neg (by intro h; rw [hn, Bool.false_and] at h; cases h)]
           exact wpAny_pure hQ))

/-- the list at a, as it stands at each turn (a loop may append to it) -/
def Itl (K : PySem.W.Frag) (a : Addr) : It :=
  ⟨fun i H => ∃ xs x, SqL K H a xs ∧ xs[i]? = some x, fun i H x H' => H' = H ∧ ∀ xs, SqL K H a xs → xs[i]? = some x, fun i H => ∃ xs, SqL K H a xs ∧ xs.length ≤ i⟩
def Itt (K : PySem.W.Frag) (a : Addr) : It :=
  ⟨fun i H => ∃ xs x, SqT K H a xs ∧ xs[i]? = some x, fun i H x H' => H' = H ∧ ∀ xs, SqT K H a xs → xs[i]? = some x, fun i H => ∃ xs, SqT K H a xs ∧ xs.length ≤ i⟩
/-- lo, lo + 1, .. (n of them) -/
def Itr (lo : Int) (n : Nat) : It := ⟨fun i _ => i < n, fun i H x H' => H' = H ∧ x = .int (lo + i), fun i _ => n ≤ i⟩
theorem turn_list {P : Program} {w : World} {K : PySem.W.Frag} {tg : Expr} (a it : Addr) : Turn P w K tg (Itl K a) [it] it (fun i h => h.IsListIter it a i) where
  mem := by simp
  obj := fun i h st b hb => by
    have e : b = it := by simpa using hb
    subst e
    obtain ⟨o, e, c, d⟩ := st
    exact ⟨o, e, fun v z => by rw [d] at z; cases z⟩
  keep := fun i h h' st k => st.at fun o e => k it (by simp) o e
  item := by
    intro X hP hw hK hc i pins s σ H E I hf st hg
    subst hP hw hK
    obtain ⟨xs, x, hq, hx⟩ := hg
    obtain ⟨its, rv, p, hz⟩ := I.list hq
    obtain ⟨u, hu, ru⟩ := rv.get hx
    obtain ⟨f0, f1, f2, f3, f4, f5⟩ := hf it (by simp)
    refine wpAny_pyNext_list_item st p.isList (x := u) (by simpa using hu) fun h' st' sb => ?_
    have I1 : Inv X pins σ H { s with heap := h' } := I.turned (t' := s.toks) (fun b o hb e => (sb.2 b hb).trans e) f0 f1 f3 f4 f5
    obtain ⟨o, e, c, d⟩ := id st'
    exact ⟨u, rfl, go_of (s := { s with heap := h' }) e c d (by decide) ⟨x, H, I1, ru, ⟨rfl, fun ys hy => by rw [I.list_inj hy hq]; exact hx⟩, st', fun b hb => (hf b hb).1⟩⟩
  done := by
    intro X hP hw hK hc i pins s σ H E I hf st hg
    subst hP hw hK
    obtain ⟨xs, hq, hx⟩ := hg
    obtain ⟨its, rv, p, hz⟩ := I.list hq
    obtain ⟨f0, f1, f2, f3, f4, f5⟩ := hf it (by simp)
    have hl := rv.length
    exact wpAny_pyNext_list_end (I.ok.hd hc) st p.isList (by simp; omega) fun h' eb => ⟨rfl, I.turned (t' := s.toks) (fun b o hb e => eb b o hb e) f0 f1 f3 f4 f5⟩
  self := fun _ _ _ _ _ st h => wpAny_pyIter_listiter st h
theorem turn_tuple {P : Program} {w : World} {K : PySem.W.Frag} {tg : Expr} (a it : Addr) : Turn P w K tg (Itt K a) [it] it (fun i h => h.IsTupleIter it a i) where
  mem := by simp
  obj := fun i h st b hb => by
    have e : b = it := by simpa using hb
    subst e
    obtain ⟨o, e, c, d⟩ := st
    exact ⟨o, e, fun v z => by rw [d] at z; cases z⟩
  keep := fun i h h' st k => st.at fun o e => k it (by simp) o e
  item := by
    intro X hP hw hK hc i pins s σ H E I hf st hg
    subst hP hw hK
    obtain ⟨xs, x, hq, hx⟩ := hg
    obtain ⟨its, rv, p, hz⟩ := I.tuple hq
    obtain ⟨u, hu, ru⟩ := rv.get hx
    obtain ⟨f0, f1, f2, f3, f4, f5⟩ := hf it (by simp)
    refine wpAny_pyNext_tuple_item st (show s.heap.IsTuple a its.toArray from p) (x := u) (by simpa using hu) fun h' st' sb => ?_
    have I1 : Inv X pins σ H { s with heap := h' } := I.turned (t' := s.toks) (fun b o hb e => (sb.2 b hb).trans e) f0 f1 f3 f4 f5
    obtain ⟨o, e, c, d⟩ := id st'
    exact ⟨u, rfl, go_of (s := { s with heap := h' }) e c d (by decide) ⟨x, H, I1, ru, ⟨rfl, fun ys hy => by rw [I.tuple_inj hy hq]; exact hx⟩, st', fun b hb => (hf b hb).1⟩⟩
  done := by
    intro X hP hw hK hc i pins s σ H E I hf st hg
    subst hP hw hK
    obtain ⟨xs, hq, hx⟩ := hg
    obtain ⟨its, rv, p, hz⟩ := I.tuple hq
    obtain ⟨f0, f1, f2, f3, f4, f5⟩ := hf it (by simp)
    have hl := rv.length
    exact wpAny_pyNext_tuple_end (I.ok.hd hc) st (show s.heap.IsTuple a its.toArray from p) (by simp; omega) fun h' eb => ⟨rfl, I.turned (t' := s.toks) (fun b o hb e => eb b o hb e) f0 f1 f3 f4 f5⟩
  self := fun _ _ _ _ _ st h => wpAny_pyIter_tupleiter st h
theorem turn_range {P : Program} {w : World} {K : PySem.W.Frag} {tg : Expr} (it : Addr) (lo : Int) (n : Nat) : Turn P w K tg (Itr lo n) [it] it (fun i h => IsRangeIter h it (lo + (i : Nat) * 1) ((n : Int) - (i : Nat)) 1) where
  mem := by simp
  obj := fun i h st b hb => by
    have e : b = it := by simpa using hb
    subst e
    exact ⟨_, st, fun v z => by
      have z' : Data.fields _ = Data.cell v := z
      cases z'⟩
  keep := fun i h h' st k => k it (by simp) _ st
  item := by
    intro X hP hw hK hc i pins s σ H E I hf st hg
    subst hP hw hK
    obtain ⟨f0, f1, f2, f3, f4, f5⟩ := hf it (by simp)
    have W := Walks.range (prog := X.prog) (w := X.w) (I.ok.hd hc) it lo 1 n
    refine W.item i s _ _ hg st fun v h' tk hv st' kk => ?_
    obtain ⟨t, rfl⟩ := hv
    have I1 : Inv X pins σ H { s with heap := h', toks := tk } := I.turned (fun b o hb e => kk b o (by simpa using hb) e) f0 f1 f3 f4 f5
    refine ⟨_, rfl, go_of (s := { s with heap := h', toks := tk }) (n := "range_iterator") st' rfl rfl (by decide) ⟨.int (lo + i), H, I1, ⟨t, ?_⟩, ⟨rfl, rfl⟩, st', fun b hb => (hf b hb).1⟩⟩
    rw [Int.mul_one]
  done := by
    intro X hP hw hK hc i pins s σ H E I hf st hg
    subst hP hw hK
    obtain ⟨f0, f1, f2, f3, f4, f5⟩ := hf it (by simp)
    exact wpAny_pyNext_range_end (I.ok.hd hc) st (by have : n ≤ i := hg; omega) fun h' eb => ⟨rfl, I.turned (t' := s.toks) (fun b o hb e => eb b o hb e) f0 f1 f3 f4 f5⟩
  self := fun _ _ _ _ _ st h => wpAny_pyIter_rangeiter st h
end L2

namespace L2
open PySem PySem.Spec PyProof.Rows
section
variable {X : Cx} {tg : Expr}
/-- a range object just made, walked -/
theorem range_it {pins : List (Addr × Obj)} {σ : St} {H : Hp} {s : Shared} {R : It → Hp → Prop} {E : Value → Shared → Prop} {lo hi : Int} {t u v : Tok} {tk : Nat} (I : Inv X pins σ H s) (h1 : -(2 ^ 62) ≤ lo) (h2 : lo < 2 ^ 62) (h3 : -(2 ^ 62) ≤ hi) (h4 : hi < 2 ^ 62)
    (q : R (Itr lo (hi - lo).toNat) H) : wpAny (model X.prog X.w) X.A (pyIter (.ref s.heap.objs.size)) (PIE X pins σ tg R) E { s with heap := s.heap.push { cls := .type "range", data := .fields #[.int lo t, .int hi u, .int 1 v] }, toks := tk } := by
  refine wpAny_pyIter_range (IsRange.new ..) (small_one h1 h2 h3 h4) ?_
  have I1 : Inv X pins σ H { s with heap := s.heap.push { cls := .type "range", data := .fields #[.int lo t, .int hi u, .int 1 v] }, toks := tk } := I.kept fun b o e => Heap.get?_push_of_some _ e
  refine ⟨(s.heap.push { cls := .type "range", data := .fields #[.int lo t, .int hi u, .int 1 v] }).objs.size, [(s.heap.push { cls := .type "range", data := .fields #[.int lo t, .int hi u, .int 1 v] }).objs.size], _, _, H, rfl,
    I1.kept (t' := tk) fun b o e => Heap.get?_push_of_some _ e, turn_range _ lo (hi - lo).toNat, ?_, fun b hb => ?_, q⟩
  · have e1 : lo + ((0 : Nat) : Int) * 1 = lo := by simp
    have e2 : (((hi - lo).toNat : Nat) : Int) - ((0 : Nat) : Int) = Builtin.Range.rangeSize lo hi 1 := by rw [rangeSize_one]; split <;> omega
    show IsRangeIter _ _ (lo + ((0 : Nat) : Int) * 1) ((((hi - lo).toNat : Nat) : Int) - ((0 : Nat) : Int)) 1
    rw [e1, e2]
    exact Heap.get?_push_size _ rfl
  · have e : b = (s.heap.push { cls := .type "range", data := .fields #[.int lo t, .int hi u, .int 1 v] }).objs.size := by simpa using hb
    subst e
    exact I1.fpOk (Nat.le_refl _) (I1.hok.fresh (Nat.le_refl _))
/-! ### for -/
/-- W: the invariant by the turn and a measure; N: what the body is to reach -/
def tFor (wi : TI) (g : TG) (tb : TS) : TS := fun D σ H => wi σ H fun J H1 => ∃ W : Nat → Nat → St → Hp → Prop, (∃ m, W 0 m σ H1) ∧ ∀ i m σ H, W i m σ H →
  (J.stop i H ∧ D.nx σ H) ∨ (J.go i H ∧ ∃ N : St → Hp → Prop, (∀ σ' H', N σ' H' → ∃ m', m' < m ∧ W (i + 1) m' σ' H') ∧ ∀ x H', J.yld i H x H' → g x σ H' fun σ2 H2 => tb { D with nx := N, ct := N, bk := D.nx } σ2 H2)
/-- the records at fp as they stand -/
def pinsAt (fp : List Addr) (h : Heap) : List (Addr × Obj) := fp.filterMap fun b => (h.get? b).map fun o => (b, o)
theorem mem_pinsAt {fp : List Addr} {h : Heap} {b : Addr} {o : Obj} (hb : b ∈ fp) (e : h.get? b = some o) : (b, o) ∈ pinsAt fp h := List.mem_filterMap.mpr ⟨b, hb, by rw [e]; rfl⟩
theorem of_pinsAt {fp : List Addr} {h : Heap} {p : Addr × Obj} (hp : p ∈ pinsAt fp h) : p.1 ∈ fp ∧ h.get? p.1 = some p.2 := by
  obtain ⟨b, hb, e⟩ := List.mem_filterMap.mp hp
  cases q : h.get? b with
  | none => rw [q] at e; cases e
  | some o =>
    rw [q] at e
    have e' : (b, o) = p := Option.some.inj e
    subst e'
    exact ⟨hb, q⟩
theorem Inv.pinned {pins : List (Addr × Obj)} {σ : St} {H : Hp} {s : Shared} {fp : List Addr} (I : Inv X pins σ H s) (hf : ∀ b ∈ fp, FpOk X pins H b) (ho : ∀ b ∈ fp, ∃ o, s.heap.get? b = some o ∧ ∀ v, o.data ≠ .cell v) : Inv X (pins ++ pinsAt fp s.heap) σ H s :=
  I.pins_of fun p hp => (List.mem_append.mp hp).elim (fun z => I.pin p (List.mem_append_right _ z)) fun z => by
    obtain ⟨hb, e⟩ := of_pinsAt z
    obtain ⟨f0, f1, f2, _⟩ := hf p.1 hb
    obtain ⟨o, e', d⟩ := ho p.1 hb
    rw [e] at e'; cases e'
    exact ⟨e, f0, f1, f2, d⟩
theorem Inv.unpinned {pins pl : List (Addr × Obj)} {σ : St} {H : Hp} {s : Shared} (I : Inv X (pins ++ pl) σ H s) : Inv X pins σ H s := I.pins_of fun p hp => I.pin p (List.mem_append_right _ (List.mem_append_left _ hp))
theorem ps_for {iter : Expr} {body : List Stmt} {wi : TI} {g : TG} {tb : TS} {pos : Pos} (hp : PassesOwn (model X.prog X.w) X.A X.env X.xe) (hc : X.calm = true) (hi : PI X tg iter wi) (hg : PG X tg g) (hb : PSs X body tb)
    (hs : ∀ x, foldedSetIterable iter X.env x = pure x := by intro _; rfl) : PS X (.For tg iter body [] pos) (tFor wi g tb) := by
  intro pins s σ H D I h
  refine wpAny_For (thn (hi pins s σ H _ I h) fun v s1 h1 => thn h1 fun itv s2 h2 => ?_) hs
  obtain ⟨it, fp, tn, J, H2, e, I2, T, st2, f2, W, ⟨m0, w0⟩, turn⟩ := h2
  subst e
  -- what stays true of the iterator's objects through the loop
  have stat : ∀ {H' : Hp}, (∀ b ∈ fp, H' b = none) → ∀ b ∈ fp, FpOk X pins H' b := fun hn b hb => ⟨hn b hb, (f2 b hb).2⟩
  refine codeAny_forLoop_any (fun n s' => ∃ i σ' H', Inv X pins σ' H' s' ∧ tn i s'.heap ∧ (∀ b ∈ fp, H' b = none) ∧ W i n σ' H') ?_ m0 ⟨0, σ, H2, I2, st2, fun b hb => (f2 b hb).1, w0⟩
  rintro n s3 ⟨i, σ3, H3, I3, st3, fr3, w3⟩
  rcases turn i n σ3 H3 w3 with ⟨stop, qn⟩ | ⟨go, N, hN, step⟩
  · refine wpAny_passesOwn hp (thn (T.done X rfl rfl rfl hc i pins s3 σ3 H3 X.xe I3 (stat fr3) st3 stop) fun r s4 ⟨hr, I4⟩ => ?_)
    subst hr
    exact wpAny_execs_nil ⟨σ3, H3, I4, qn⟩
  · refine wpAny_passesOwn hp (thn (T.item X rfl rfl rfl hc i pins s3 σ3 H3 X.xe I3 (stat fr3) st3 go) fun r s4 ⟨u, hr, h4⟩ => ?_)
    subst hr
    refine wpAny_passesOwn hp (thn h4 fun _ s5 ⟨x, H5, I5, r5, y5, st5, fr5⟩ => ?_)
    have I5' := I5.pinned (stat fr5) (T.obj _ _ st5)
    refine wpAny_passesOwn hp (thn (hg _ s5 σ3 H5 x u _ I5' r5 (step x H5 y5)) fun _ s6 ⟨σ6, H6, I6, q6⟩ => ?_)
    refine wpAny_passesOwn hp (thn (hb _ s6 σ6 H6 _ I6 q6) fun f s7 q7 => ?_)
    have again : ∀ {σ7 : St} {H7 : Hp}, Inv X (pins ++ pinsAt fp s5.heap) σ7 H7 s7 → N σ7 H7 → ∃ m, m < n ∧ ∃ i σ' H', Inv X pins σ' H' s7 ∧ tn i s7.heap ∧ (∀ b ∈ fp, H' b = none) ∧ W i m σ' H' := fun {σ7 H7} I7 n7 => by
      obtain ⟨m', hm, w7⟩ := hN σ7 H7 n7
      refine ⟨m', hm, i + 1, σ7, H7, I7.unpinned, T.keep _ _ _ st5 fun b hb o e => (I7.pin (b, o) (List.mem_append_right _ (List.mem_append_right _ (mem_pinsAt hb e)))).1, fun b hb => ?_, w7⟩
      obtain ⟨o, e, d⟩ := T.obj _ _ st5 b hb
      exact (I7.pin (b, o) (List.mem_append_right _ (List.mem_append_right _ (mem_pinsAt hb e)))).2.1
    cases f with
    | next => obtain ⟨σ7, H7, I7, n7⟩ := q7; exact again I7 n7
    | cont => obtain ⟨σ7, H7, I7, n7⟩ := q7; exact again I7 n7
    | brk => obtain ⟨σ7, H7, I7, q7⟩ := q7; exact ⟨σ7, H7, I7.unpinned, q7⟩
    | ret v => obtain ⟨x7, σ7, H7, I7, r7, q7⟩ := q7; exact ⟨x7, σ7, H7, I7.unpinned, r7, q7⟩
end

/-! ### the forms one uses -/
/-- over a list that the body leaves as it is -/
theorem for_list {K : PySem.W.Frag} {a : Addr} {xs : List V} {g : TG} {tb : TS} {D : Ends} {σ : St} {H : Hp} (Pv : Nat → St → Hp → Prop) (h0 : Pv 0 σ H) (hl : ∀ i σ H, i ≤ xs.length → Pv i σ H → SqL K H a xs)
    (hs : ∀ i x σ H, xs[i]? = some x → Pv i σ H → g x σ H fun σ2 H2 => tb { D with nx := Pv (i + 1), ct := Pv (i + 1), bk := D.nx } σ2 H2) (hd : ∀ σ H, Pv xs.length σ H → D.nx σ H) :
    ∃ W : Nat → Nat → St → Hp → Prop, (∃ m, W 0 m σ H) ∧ ∀ i m σ H, W i m σ H →
      ((Itl K a).stop i H ∧ D.nx σ H) ∨ ((Itl K a).go i H ∧ ∃ N : St → Hp → Prop, (∀ σ' H', N σ' H' → ∃ m', m' < m ∧ W (i + 1) m' σ' H') ∧ ∀ x H', (Itl K a).yld i H x H' → g x σ H' fun σ2 H2 => tb { D with nx := N, ct := N, bk := D.nx } σ2 H2) := by
  refine ⟨fun i m σ H => m = xs.length - i ∧ i ≤ xs.length ∧ Pv i σ H, ⟨xs.length, by simp, Nat.zero_le _, h0⟩, ?_⟩
  rintro i m σ H ⟨rfl, hi, p⟩
  have q := hl i σ H hi p
  by_cases hlt : i < xs.length
  · refine .inr ⟨⟨xs, xs[i], q, by simp [hlt]⟩, Pv (i + 1), fun σ' H' p' => ⟨xs.length - (i + 1), by omega, rfl, hlt, p'⟩, fun x H' y => ?_⟩
    obtain ⟨e, y⟩ := y
    subst e
    exact hs i x σ _ (y xs q) p
  · have e : i = xs.length := by omega
    subst e
    exact .inl ⟨⟨xs, q, Nat.le_refl _⟩, hd σ H p⟩
theorem for_range {lo : Int} {n : Nat} {g : TG} {tb : TS} {D : Ends} {σ : St} {H : Hp} (Pv : Nat → St → Hp → Prop) (h0 : Pv 0 σ H)
    (hs : ∀ i σ H, i < n → Pv i σ H → g (.int (lo + i)) σ H fun σ2 H2 => tb { D with nx := Pv (i + 1), ct := Pv (i + 1), bk := D.nx } σ2 H2) (hd : ∀ σ H, Pv n σ H → D.nx σ H) :
    ∃ W : Nat → Nat → St → Hp → Prop, (∃ m, W 0 m σ H) ∧ ∀ i m σ H, W i m σ H →
      ((Itr lo n).stop i H ∧ D.nx σ H) ∨ ((Itr lo n).go i H ∧ ∃ N : St → Hp → Prop, (∀ σ' H', N σ' H' → ∃ m', m' < m ∧ W (i + 1) m' σ' H') ∧ ∀ x H', (Itr lo n).yld i H x H' → g x σ H' fun σ2 H2 => tb { D with nx := N, ct := N, bk := D.nx } σ2 H2) := by
  refine ⟨fun i m σ H => m = n - i ∧ i ≤ n ∧ Pv i σ H, ⟨n, by simp, Nat.zero_le _, h0⟩, ?_⟩
  rintro i m σ H ⟨rfl, hi, p⟩
  by_cases hlt : i < n
  · refine .inr ⟨hlt, Pv (i + 1), fun σ' H' p' => ⟨n - (i + 1), by omega, rfl, hlt, p'⟩, fun x H' y => ?_⟩
    obtain ⟨e, y⟩ := y
    subst e y
    exact hs i σ _ hlt p
  · have e : i = n := by omega
    subst e
    exact .inl ⟨Nat.le_refl _, hd σ H p⟩
end L2

namespace L2
open PySem PySem.Spec PyProof.Rows

abbrev R2 := V → V → Hp → VK → Prop
/-- a two-place operation on values: f is binaryOp op, inplaceOp op or compareOp op -/
def OpR (X : Cx) (f : Value → Value → Sem Value) (r : R2) : Prop :=
  ∀ (pins : List (Addr × Obj)) (s : Shared) (σ : St) (H : Hp) (x y : V) (v u : Value) (Q : VK), Inv X pins σ H s → RelV x v → RelV y u → r x y H Q →
    wpAny (model X.prog X.w) X.A (f v u) (EP X pins σ Q) X.xe s
/-- a one-place operation -/
def UnR (X : Cx) (f : Value → Sem Value) (r : V → Hp → VK → Prop) : Prop :=
  ∀ (pins : List (Addr × Obj)) (s : Shared) (σ : St) (H : Hp) (x : V) (v : Value) (Q : VK), Inv X pins σ H s → RelV x v → r x H Q →
    wpAny (model X.prog X.w) X.A (f v) (EP X pins σ Q) X.xe s
/-- a call of a value that is known (a builtin, a type) with values -/
def CallR (X : Cx) (f : Value) (r : List V → Hp → VK → Prop) : Prop :=
  ∀ (pins : List (Addr × Obj)) (s : Shared) (σ : St) (H : Hp) (xs : List V) (us : List Value) (Q : VK), Inv X pins σ H s → Vals xs us → r xs H Q →
    wpAny (model X.prog X.w) X.A (call f us) (EP X pins σ Q) X.xe s
/-- a value's truth -/
def TruR (X : Cx) (r : V → Hp → (Bool → Hp → Prop) → Prop) : Prop :=
  ∀ (pins : List (Addr × Obj)) (s : Shared) (σ : St) (H : Hp) (x : V) (v : Value) (Q : Bool → Hp → Prop), Inv X pins σ H s → RelV x v → r x H Q →
    wpAny (model X.prog X.w) X.A (truthy v) (TP X pins σ Q) X.xe s

def tOp (r : R2) (ta tb : TE) : TE := fun σ H Q => ta σ H fun x H1 => tb σ H1 fun y H2 => r x y H2 Q
def tUn (r : V → Hp → VK → Prop) (ta : TE) : TE := fun σ H Q => ta σ H fun x H1 => r x H1 Q
/-- ints in, under C, and a value out -/
def rI (C : Int → Int → Prop) (g : Int → Int → V) : R2 := fun x y H Q => ∃ i j, x = .int i ∧ y = .int j ∧ C i j ∧ Q (g i j) H
def rI0 (g : Int → Int → V) : R2 := fun x y H Q => ∃ i j, x = .int i ∧ y = .int j ∧ Q (g i j) H
def rU (g : Int → V) : V → Hp → VK → Prop := fun x H Q => ∃ i, x = .int i ∧ Q (g i) H

section
variable {X : Cx} {a b c : Expr} {ta tb tc : TE} {pos : Pos}

theorem binT (ha : PE X a ta) (hb : PE X b tb) {pins : List (Addr × Obj)} {s : Shared} {σ : St} {H : Hp} {R : V → V → Hp → Prop} (I : Inv X pins σ H s)
    (h : ta σ H fun x H1 => tb σ H1 fun y H2 => R x y H2) {Q : Value → Shared → Prop} {f : Value → Value → Sem Value}
    (hf : ∀ v u s2 x y H2, Inv X pins σ H2 s2 → RelV x v → RelV y u → R x y H2 → wpAny (model X.prog X.w) X.A (f v u) Q X.xe s2) :
    wpAny (model X.prog X.w) X.A (eval a X.env) (fun v s₁ => wpAny (model X.prog X.w) X.A (eval b X.env) (fun u s₂ => wpAny (model X.prog X.w) X.A (f v u) Q X.xe s₂) X.xe s₁) X.xe s := by
  refine thn (ha pins s σ H _ I h) fun v s1 ⟨x, H1, I1, r1, q1⟩ => ?_
  refine thn (hb pins s1 σ H1 _ I1 q1) fun u s2 ⟨y, H2, I2, r2, q2⟩ => ?_
  exact hf v u s2 x y H2 I2 r1 r2 q2

theorem pe_op {op : Operator} {r : R2} (ho : OpR X (binaryOp op) r) (ha : PE X a ta) (hb : PE X b tb) : PE X (.BinOp a op b pos) (tOp r ta tb) := by
  intro pins s σ H Q I h
  exact wpAny_BinOp (binT ha hb I h fun v u s2 x y H2 I2 rx ry q => ho pins s2 σ H2 x y v u Q I2 rx ry q)
theorem pe_un {op : UnaryOp} {r : V → Hp → VK → Prop} (ho : UnR X (unaryOp op) r) (ha : PE X a ta) : PE X (.UnaryOp op a pos) (tUn r ta) := by
  intro pins s σ H Q I h
  exact UnaryOp_ (thn (ha pins s σ H _ I h) fun v s1 ⟨x, H1, I1, r1, q1⟩ => ho pins s1 σ H1 x v Q I1 r1 q1)
/-! ### ints -/
theorem opI {f : Value → Value → Sem Value} {C : Int → Int → Prop} {g : Int → Int → Int}
    (rule : ∀ (i j : Int) (t u : Tok) (s : Shared) (Q : Value → Shared → Prop) (E : Value → Shared → Prop), C i j → Q (.int (g i j) s.toks) { s with toks := s.toks + 1 } → wpAny (model X.prog X.w) X.A (f (.int i t) (.int j u)) Q E s) :
    OpR X f (rI C fun i j => .int (g i j)) := by
  intro pins s σ H x y v u Q I rx ry h
  obtain ⟨i, j, rfl, rfl, hc, q⟩ := h
  obtain ⟨t, rfl⟩ := rx
  obtain ⟨t', rfl⟩ := ry
  exact rule i j t t' s _ _ hc ⟨.int (g i j), H, I.tok _, ⟨_, rfl⟩, q⟩
theorem opI0 {f : Value → Value → Sem Value} {g : Int → Int → Int}
    (rule : ∀ (i j : Int) (t u : Tok) (s : Shared) (Q : Value → Shared → Prop) (E : Value → Shared → Prop), Q (.int (g i j) s.toks) { s with toks := s.toks + 1 } → wpAny (model X.prog X.w) X.A (f (.int i t) (.int j u)) Q E s) :
    OpR X f (rI0 fun i j => .int (g i j)) := by
  intro pins s σ H x y v u Q I rx ry h
  obtain ⟨i, j, rfl, rfl, q⟩ := h
  obtain ⟨t, rfl⟩ := rx
  obtain ⟨t', rfl⟩ := ry
  exact rule i j t t' s _ _ ⟨.int (g i j), H, I.tok _, ⟨_, rfl⟩, q⟩
theorem opB0 {f : Value → Value → Sem Value} {g : Int → Int → Bool}
    (rule : ∀ (i j : Int) (t u : Tok) (s : Shared) (Q : Value → Shared → Prop) (E : Value → Shared → Prop), Q (.bool (g i j)) s → wpAny (model X.prog X.w) X.A (f (.int i t) (.int j u)) Q E s) :
    OpR X f (rI0 fun i j => .bl (g i j)) := by
  intro pins s σ H x y v u Q I rx ry h
  obtain ⟨i, j, rfl, rfl, q⟩ := h
  obtain ⟨t, rfl⟩ := rx
  obtain ⟨t', rfl⟩ := ry
  exact rule i j t t' s _ _ ⟨.bl (g i j), H, I, rfl, q⟩

def CPow (i j : Int) : Prop := 0 ≤ j ∧ j ≤ 1000000 ∧ i.natAbs < 2 ^ 64
theorem op_add : OpR X (binaryOp .Add) (rI0 fun i j => .int (i + j)) := opI0 fun _ _ _ _ _ _ _ q => add_int q
theorem op_sub : OpR X (binaryOp .Sub) (rI0 fun i j => .int (i - j)) := opI0 fun _ _ _ _ _ _ _ q => sub_int q
theorem op_modN : OpR X (binaryOp .Mod) (rI (fun _ j => j ≠ 0) fun i j => .int (i.fmod j)) := opI fun _ _ _ _ _ _ _ hc q => mod_int' hc q
theorem op_pow : OpR X (binaryOp .Pow) (rI CPow fun i j => .int (i ^ j.toNat)) := opI fun _ _ _ _ _ _ _ hc q => pow_int_small hc.1 hc.2.1 hc.2.2 q
theorem unI {f : Value → Sem Value} {g : Int → Int}
    (rule : ∀ (i : Int) (t : Tok) (s : Shared) (Q : Value → Shared → Prop) (E : Value → Shared → Prop), Q (.int (g i) s.toks) { s with toks := s.toks + 1 } → wpAny (model X.prog X.w) X.A (f (.int i t)) Q E s) :
    UnR X f (rU fun i => .int (g i)) := by
  intro pins s σ H x v Q I rx h
  obtain ⟨i, rfl, q⟩ := h
  obtain ⟨t, rfl⟩ := rx
  exact rule i t s _ _ ⟨.int (g i), H, I.tok _, ⟨_, rfl⟩, q⟩
theorem un_neg : UnR X (unaryOp .USub) (rU fun i => .int (-i)) := unI fun _ _ _ _ _ q => neg_int q
/-! ### bools among ints: n += (a < b) -/
end

/-! ### comparisons -/
/-- the scalars that == tells apart as data does -/
def scal : V → V → Bool
  | .non, .non => true | .non, .int _ => true | .int _, .non => true | .non, .bl _ => true | .bl _, .non => true | .non, .str _ => true | .str _, .non => true
  | .int _, .int _ => true | .bl _, .bl _ => true | .str _, .str _ => true | .byt _, .byt _ => true
  | .int _, .str _ => true | .str _, .int _ => true | .bl _, .str _ => true | .str _, .bl _ => true
  | _, _ => false
def rEq : R2 := fun x y H Q => scal x y = true ∧ Q (.bl (decide (x = y))) H
def rNe : R2 := fun x y H Q => scal x y = true ∧ Q (.bl (!decide (x = y))) H

theorem dec_int {i j : Int} : decide (V.int i = V.int j) = (i == j) := by
  rw [Bool.eq_iff_iff]
  simp
theorem dec_bl {i j : Bool} : decide (V.bl i = V.bl j) = (i == j) := by
  rw [Bool.eq_iff_iff]
  simp
theorem dec_str {i j : Str} : decide (V.str i = V.str j) = (i == j) := by
  rw [Bool.eq_iff_iff]
  simp
theorem dec_byt {i j : Array UInt8} : decide (V.byt i = V.byt j) = (i.toList == j.toList) := by
  rw [Bool.eq_iff_iff]
  cases i
  cases j
  simp

section
variable {X : Cx} {a b c : Expr} {ta tb tc : TE} {pos : Pos}
theorem fin_bl {pins : List (Addr × Obj)} {σ : St} {H : Hp} {s : Shared} {Q : VK} {k k' : Bool} (I : Inv X pins σ H s) (q : Q (.bl k) H) (e : k = k') : EP X pins σ Q (.bool k') s := by
  subst e
  exact ⟨.bl k, H, I, rfl, q⟩
theorem op_eq : OpR X (compareOp .Eq) rEq := by
  intro pins s σ H x y v u Q I rx ry h
  obtain ⟨hs, q⟩ := h
  cases x with
  | non =>
    cases rx
    cases y with
    | non => cases ry; exact PySem.EqNone.eq_none_none (fin_bl I q (by simp))
    | bl j => cases ry; exact PySem.EqNone.eq_none_bool (fin_bl I q (by simp))
    | int j => obtain ⟨t', rfl⟩ := ry; exact PySem.EqNone.eq_none_int (fin_bl I q (by simp))
    | str j => obtain ⟨t', rfl⟩ := ry; exact PySem.EqNone.eq_none_str (fin_bl I q (by simp))
    | _ => exact absurd (show false = true from hs) Bool.false_ne_true
  | bl i =>
    cases rx
    cases y with
    | non => cases ry; exact PySem.EqNone.eq_bool_none (fin_bl I q (by simp))
    | bl j => cases ry; exact eq_bool (fin_bl I q dec_bl)
    | str j => obtain ⟨t', rfl⟩ := ry; exact PySem.EqMixed.eq_bool_str (fin_bl I q (by simp))
    | _ => exact absurd (show false = true from hs) Bool.false_ne_true
  | int i =>
    obtain ⟨t, rfl⟩ := rx
    cases y with
    | non => cases ry; exact PySem.EqNone.eq_int_none (fin_bl I q (by simp))
    | int j => obtain ⟨t', rfl⟩ := ry; exact eq_int (fin_bl I q dec_int)
    | str j => obtain ⟨t', rfl⟩ := ry; exact PySem.EqMixed.eq_int_str (fin_bl I q (by simp))
    | _ => exact absurd (show false = true from hs) Bool.false_ne_true
  | str i =>
    obtain ⟨t, rfl⟩ := rx
    cases y with
    | non => cases ry; exact PySem.EqNone.eq_str_none (fin_bl I q (by simp))
    | bl j => cases ry; exact PySem.EqMixed.eq_str_bool (fin_bl I q (by simp))
    | int j => obtain ⟨t', rfl⟩ := ry; exact PySem.EqMixed.eq_str_int (fin_bl I q (by simp))
    | str j => obtain ⟨t', rfl⟩ := ry; exact eq_str (fin_bl I q dec_str)
    | _ => exact absurd (show false = true from hs) Bool.false_ne_true
  | byt i =>
    obtain ⟨t, rfl⟩ := rx
    cases y with
    | byt j => obtain ⟨t', rfl⟩ := ry; exact PySem.W.eq_bytes (fin_bl I q dec_byt)
    | _ => exact absurd (show false = true from hs) Bool.false_ne_true
  | _ => cases y <;> exact absurd (show false = true from hs) Bool.false_ne_true
theorem op_ne : OpR X (compareOp .NotEq) rNe := by
  intro pins s σ H x y v u Q I rx ry h
  obtain ⟨hs, q⟩ := h
  cases x with
  | non =>
    cases rx
    cases y with
    | non => cases ry; exact PySem.EqNone.ne_none_none (fin_bl I q (by simp))
    | bl j => cases ry; exact PySem.EqNone.ne_none_bool (fin_bl I q (by simp))
    | int j => obtain ⟨t', rfl⟩ := ry; exact PySem.EqNone.ne_none_int (fin_bl I q (by simp))
    | str j => obtain ⟨t', rfl⟩ := ry; exact PySem.EqNone.ne_none_str (fin_bl I q (by simp))
    | _ => exact absurd (show false = true from hs) Bool.false_ne_true
  | bl i =>
    cases rx
    cases y with
    | non => cases ry; exact PySem.EqNone.ne_bool_none (fin_bl I q (by simp))
    | bl j => cases ry; exact ne_bool (fin_bl I q (congrArg not dec_bl))
    | str j => obtain ⟨t', rfl⟩ := ry; exact PySem.EqMixed.ne_bool_str (fin_bl I q (by simp))
    | _ => exact absurd (show false = true from hs) Bool.false_ne_true
  | int i =>
    obtain ⟨t, rfl⟩ := rx
    cases y with
    | non => cases ry; exact PySem.EqNone.ne_int_none (fin_bl I q (by simp))
    | int j => obtain ⟨t', rfl⟩ := ry; exact ne_int (fin_bl I q (congrArg not dec_int))
    | str j => obtain ⟨t', rfl⟩ := ry; exact PySem.EqMixed.ne_int_str (fin_bl I q (by simp))
    | _ => exact absurd (show false = true from hs) Bool.false_ne_true
  | str i =>
    obtain ⟨t, rfl⟩ := rx
    cases y with
    | non => cases ry; exact PySem.EqNone.ne_str_none (fin_bl I q (by simp))
    | bl j => cases ry; exact PySem.EqMixed.ne_str_bool (fin_bl I q (by simp))
    | int j => obtain ⟨t', rfl⟩ := ry; exact PySem.EqMixed.ne_str_int (fin_bl I q (by simp))
    | str j => obtain ⟨t', rfl⟩ := ry; exact ne_str (fin_bl I q (congrArg not dec_str))
    | _ => exact absurd (show false = true from hs) Bool.false_ne_true
  | byt i =>
    obtain ⟨t, rfl⟩ := rx
    cases y with
    | byt j => obtain ⟨t', rfl⟩ := ry; exact PySem.W.ne_bytes (fin_bl I q (congrArg not dec_byt))
    | _ => exact absurd (show false = true from hs) Bool.false_ne_true
  | _ => cases y <;> exact absurd (show false = true from hs) Bool.false_ne_true

theorem op_lt : OpR X (compareOp .Lt) (rI0 fun i j => .bl (decide (i < j))) := opB0 fun _ _ _ _ _ _ _ q => lt_int q
theorem op_le : OpR X (compareOp .LtE) (rI0 fun i j => .bl (decide (i ≤ j))) := opB0 fun _ _ _ _ _ _ _ q => le_int q
theorem op_gt : OpR X (compareOp .Gt) (rI0 fun i j => .bl (decide (j < i))) := opB0 fun _ _ _ _ _ _ _ q => gt_int q
theorem op_ge : OpR X (compareOp .GtE) (rI0 fun i j => .bl (decide (j ≤ i))) := opB0 fun _ _ _ _ _ _ _ q => ge_int q
theorem nomark (b : Expr) {op : CmpOp} (h : op ≠ .In := by decide) (h2 : op ≠ .NotIn := by decide) : behindInMarks op b = false := by
  have e1 : (op == CmpOp.In) = false := by cases op <;> first | rfl | exact absurd rfl h
  have e2 : (op == CmpOp.NotIn) = false := by cases op <;> first | rfl | exact absurd rfl h2
  cases b <;> simp [behindInMarks, e1, e2]
/-- a comparison as a value; hm: nomark b, or (for in, not in) by with_unfolding_all rfl -/
theorem pe_cmpR {op : CmpOp} {r : R2} (ho : OpR X (compareOp op) r) (ha : PE X a ta) (hb : PE X b tb) (hm : behindInMarks op b = false) : PE X (.Compare a [op] [b] pos) (tOp r ta tb) := by
  intro pins s σ H Q I h
  exact wpAny_Compare1 (binT ha hb I h fun v u s2 x y H2 I2 rx ry q => ho pins s2 σ H2 x y v u Q I2 rx ry q) hm
/-! ### truth -/
/-- a value's truth by the abstract heap -/
def TruV (K : PySem.W.Frag) (x : V) (H : Hp) (k : Bool) : Prop :=
  match x with
  | .non => k = false
  | .bl b => k = b
  | .int i => k = (i != 0)
  | .str y => y.length ≤ sizeLine ∧ k = ((y.length : Int) != 0)
  | .byt y => y.size ≤ sizeLine ∧ k = ((y.size : Int) != 0)
  | .ref p => (∃ xs, SqL K H p xs ∧ k = !xs.isEmpty) ∨ (∃ xs, SqT K H p xs ∧ k = !xs.isEmpty) ∨ ∃ kvs, H p = some (.dK kvs) ∧ k = !kvs.isEmpty
  | _ => False
theorem isEmpty_kv {κ : Type} {kvs : List (κ × V)} {vs : List (κ × Value)} (r : KV kvs vs) : (!vs.isEmpty) = !kvs.isEmpty := by
  cases r <;> rfl
theorem isEmpty_of {xs : List V} {its : List Value} (r : Vals xs its) : (!its.toArray.isEmpty) = !xs.isEmpty := by
  cases r <;> simp
theorem line63 : (sizeLine : Nat) < 2 ^ 63 := by rw [sizeLine_eq]; decide
theorem tru_ok : TruR X (fun x H Q => ∃ k, TruV X.K x H k ∧ Q k H) := by
  intro pins s σ H x v Q I rx h
  obtain ⟨k, e, q⟩ := h
  have hl := line63
  have hs : sizeLine = 16777216 := sizeLine_eq
  cases x with
  | non =>
    cases rx
    have e' : k = false := e
    subst e'
    exact truthy_none ⟨H, I, q⟩
  | bl b =>
    cases rx
    have e' : k = b := e
    subst e'
    exact wpAny_truthy_bool ⟨H, I, q⟩
  | int i =>
    obtain ⟨t, rfl⟩ := rx
    have e' : k = (i != 0) := e
    subst e'
    exact PySem.P.truthy_int ⟨H, I, q⟩
  | str y =>
    obtain ⟨t, rfl⟩ := rx
    obtain ⟨hy, e'⟩ : y.length ≤ sizeLine ∧ k = ((y.length : Int) != 0) := e
    subst e'
    exact PySem.P.truthy_str (by omega) ⟨H, I.tok _, q⟩
  | byt y =>
    obtain ⟨t, rfl⟩ := rx
    obtain ⟨hy, e'⟩ : y.size ≤ sizeLine ∧ k = ((y.size : Int) != 0) := e
    subst e'
    exact PySem.W.truthy_bytes (by omega) ⟨H, I.tok _, q⟩
  | ref p =>
    cases rx
    have e' : (∃ xs, SqL X.K H p xs ∧ k = !xs.isEmpty) ∨ (∃ xs, SqT X.K H p xs ∧ k = !xs.isEmpty) ∨ ∃ kvs, H p = some (.dK kvs) ∧ k = !kvs.isEmpty := e
    rcases e' with ⟨xs, hx, e'⟩ | ⟨xs, hx, e'⟩ | ⟨kvs, hx, e'⟩
    · subst e'
      obtain ⟨its, r, pl, hz⟩ := I.list hx
      have hlen := r.length
      exact wpAny_truthy_list pl.isList (by simp only [List.size_toArray]; omega) ⟨H, I.tok _, by rw [isEmpty_of r]; exact q⟩
    · subst e'
      obtain ⟨its, r, pl, hz⟩ := I.tuple hx
      have hlen := r.length
      exact truthy_tuple pl (by simp only [List.size_toArray]; omega) ⟨H, I.tok _, by rw [isEmpty_of r]; exact q⟩
    · subst e'
      obtain ⟨hz, hS, vs, r, m⟩ : kvs.length ≤ sizeLine ∧ (p == sysModules) = false ∧ ∃ vs, KV kvs vs ∧ s.heap.DictOf (mixKind X.prog X.w) p vs := I.hok p _ hx
      have hlen : kvs.length = vs.length := Paired.length r
      exact wpAny_truthy_dict hS m (by omega) ⟨H, I.tok _, by rw [isEmpty_kv r]; exact q⟩
  | _ => exact (show False from e).elim
/-! ### strs and bytes -/
theorem op_add_str : OpR X (binaryOp .Add) (fun x y H Q => ∃ i j, x = .str i ∧ y = .str j ∧ i.length + j.length ≤ sizeLine ∧ Q (.str (i ++ j)) H) := by
  intro pins s σ H x y v u Q I rx ry h
  obtain ⟨i, j, rfl, rfl, hz, q⟩ := h
  obtain ⟨t, rfl⟩ := rx
  obtain ⟨t', rfl⟩ := ry
  exact add_str (fun t' tk => ⟨.str (i ++ j), H, I.tok _, ⟨_, rfl⟩, q⟩) hz
/-! ### scalar builtins, by CallR -/
theorem vals1 {x : V} {us : List Value} (r : Vals [x] us) : ∃ u, us = [u] ∧ RelV x u := by
  cases r with
  | cons r1 r2 => cases r2; exact ⟨_, rfl, r1⟩
theorem vals2 {x y : V} {us : List Value} (r : Vals [x, y] us) : ∃ u w', us = [u, w'] ∧ RelV x u ∧ RelV y w' := by
  cases r with
  | cons r1 r2 =>
    cases r2 with
    | cons r3 r4 => cases r4; exact ⟨_, _, rfl, r1, r3⟩
theorem call_int1 : CallR X (.type "int") (fun xs H Q => (∃ i, xs = [.int i] ∧ Q (.int i) H) ∨ ∃ k, xs = [.bl k] ∧ Q (.int (if k then 1 else 0)) H) := by
  intro pins s σ H xs us Q I r h
  rcases h with ⟨i, rfl, q⟩ | ⟨k, rfl, q⟩
  · obtain ⟨u, rfl, t, rfl⟩ := vals1 r
    exact call_int_int ⟨.int i, H, I, ⟨_, rfl⟩, q⟩
  · obtain ⟨u, rfl, r1⟩ := vals1 r
    cases r1
    exact call_int_bool ⟨.int (if k then 1 else 0), H, I.tok _, ⟨_, rfl⟩, q⟩
end
end L2

namespace L2
open PySem PySem.Spec PyProof.Rows

/-! ### an instance, its attributes a map -/
structure ObjM (h : Heap) (x dx C : Addr) (mA : Str → Option Value) : Prop where
  obj : h.get? x = some (PySem.W.instObj C dx)
  ns : h.Ns1 dx mA
  ne : dx ≠ x

theorem lookIn_ns {h : Heap} {dx : Addr} {mA : Str → Option Value} (n : h.Ns1 dx mA) : ∃ od, h.get? dx = some od ∧ ∀ name, PySem.W.lookIn name od = some (mA name) := by
  obtain ⟨o, es, ep, ho, hd, hk, _, hm⟩ := n
  refine ⟨o, ho, fun name => ?_⟩
  have e := hm name
  unfold nsFind findBy at e
  rw [← Array.find?_toList] at e
  unfold PySem.W.lookIn
  rw [hd]
  dsimp only
  split
  · rename_i y q
    rw [q] at e
    exact congrArg some e
  · rename_i q
    rw [q] at e
    have a : es.toList.any (·.refKey) = false := by
      rw [List.any_eq_false]
      intro y hy
      obtain ⟨z, t, hkey⟩ := hk y (Array.mem_toList_iff.mp hy)
      simp [DictEntry.refKey, hkey]
    have a' : ¬ es.toList.any (·.refKey) = true := by rw [a]; exact Bool.false_ne_true
    rw [if_neg a']
    exact congrArg some e

theorem ObjM.look {h : Heap} {x dx C : Addr} {mA : Str → Option Value} (I : ObjM h x dx C mA) : ∃ od, PySem.W.InstAt h x (PySem.W.instObj C dx) C (some od) ∧ ∀ name, PySem.W.lookIn name od = some (mA name) :=
  let ⟨od, ho, hl⟩ := lookIn_ns I.ns
  ⟨od, ⟨I.obj, rfl, rfl, ho⟩, hl⟩

section
variable {prog : Program} {w : World} {A : Around} {E : Value → Shared → Prop} {s : Shared} {K : PySem.W.Frag} {x dx C f : Addr} {mA : Str → Option Value} {name : Str} {v : Value}

end

/-! ### the attributes as a list of pairs -/
section
variable {P : Program} {w : World} {H H' : Hp} {h h' : Heap} {a C dx : Addr} {fs fs' : List (Str × V)}
theorem ins_get (hok : HOk P w H h) (e : H a = some (.ins C dx fs)) : ∃ mA, ObjM h a dx C mA ∧ (∀ f, RelO (fs.lookup f) (mA f)) ∧ PySem.Within mA (fs.map (·.1)) ∧ fs.length ≤ 1000 ∧ H dx = some (.own a) := by
  obtain ⟨d, z, ne, ob, mA, n, r, q⟩ := (show ObjOk P w H h a (.ins C dx fs) from hok a _ e)
  exact ⟨mA, ⟨ob, n, ne⟩, r, q, z, d⟩
end

/-! ### what of the text a class must have -/
structure Cls (K : PySem.W.Frag) (C : Addr) : Prop where
  pg : PySem.W.plainGet K C Str.empty = true
  hd : PySem.W.hasDictIn K C = true
  po : PySem.W.plainOver K C = true
  sa : PySem.W.findIn K (.ref C) "__setattr__" = some (some (.builtin "object.__setattr__"))
theorem Cls.get {K : PySem.W.Frag} {C : Addr} (c : Cls K C) (f : Str) : PySem.W.plainGet K C f = true := c.pg
section
variable {X : Cx} {pins : List (Addr × Obj)} {σ : St} {H : Hp} {s : Shared} {a C dx : Addr} {fs : List (Str × V)} {f : Str} {v : V} {A : Around} {E : Value → Shared → Prop}

end

/-! ### readings and rules -/
section
variable {X : Cx} {o e value : Expr} {f : Str} {pos pos' tpos : Pos} {ta tv : TE}
end

/-! ### isinstance -/
section
variable {X : Cx} {pins : List (Addr × Obj)} {σ : St} {H : Hp} {s : Shared} {A : Around} {E : Value → Shared → Prop} {Q : Value → Shared → Prop} {c : Value} {b : Bool}
/-- the type of a value, as the fragment's deciders take it; for an instance its class -/
inductive TyOf (K : PySem.W.Frag) (H : Hp) : V → Value → Prop where
  | non : TyOf K H .non (.type "NoneType")
  | bl (x : Bool) : TyOf K H (.bl x) (.type "bool")
  | int (i : Int) : TyOf K H (.int i) (.type "int")
  | str (x : Str) : TyOf K H (.str x) (.type "str")
  | flt (x : UInt64) : TyOf K H (.flt x) (.type "float")
  | lst {a : Addr} {xs : List V} (e : H a = some (.lst xs)) : TyOf K H (.ref a) (.type "list")
  | frz {a : Addr} {o : Obj} {xs : List V} (e : H a = some (.frz o (.lst xs))) : TyOf K H (.ref a) (.type "list")
  | tup {a : Addr} {xs : List V} (e : H a = some (.tup xs)) : TyOf K H (.ref a) (.type "tuple")
  | dK {a : Addr} {kvs : List (Key × V)} (e : H a = some (.dK kvs)) : TyOf K H (.ref a) (.type "dict")
  | dT {a : Addr} {kvs : List (List Key × V)} (e : H a = some (.dT kvs)) : TyOf K H (.ref a) (.type "dict")
  | ins {a C dx : Addr} {fs : List (Str × V)} (e : H a = some (.ins C dx fs)) (cl : Cls K C) (ha : PySem.W.findIn K (.ref C) "__class__" = some (some (.builtin "object.__class__")))
      (hn : PySem.W.specialIn K (.builtin "object.__class__") "__get__" = some (some (.builtin "getset_descriptor.__get__"))) (htk : PySem.W.takesIn K (.builtin "object.__class__") = some true)
      (hm : PySem.W.mroIn K C (.type "object") = some true) : TyOf K H (.ref a) (.ref C)
/-- isinstance(x, c) for one class c, a built-in or an own one: kitOne's answer -/
theorem isinst_ok {x : V} {u t : Value} (I : Inv X pins σ H s) (rx : RelV x u) (ty : TyOf X.K H x t) (e : PySem.W.kitOne X.K t c = some b) (h : ∀ tk, Q (.bool b) { s with toks := tk }) :
    wpAny (model X.prog X.w) A (call (.builtin "isinstance") [u, c]) Q E s := by
  cases ty with
  | non => cases (show u = Value.none from rx); exact PySem.W.kia_one PySem.W.kitx_none I.kIn True.intro e (fun z => nomatch z) h
  | bl y => cases (show u = Value.bool y from rx); exact PySem.W.kia_one PySem.W.kitx_bool I.kIn True.intro e (fun z => nomatch z) h
  | int i => obtain ⟨t, q⟩ := (show ∃ t, u = Value.int i t from rx); cases q; exact PySem.W.kia_one PySem.W.kitx_int I.kIn True.intro e (fun z => nomatch z) h
  | str y => obtain ⟨t, q⟩ := (show ∃ t, u = Value.str y t from rx); cases q; exact PySem.W.kia_one PySem.W.kitx_str I.kIn True.intro e (fun z => nomatch z) h
  | flt y => obtain ⟨t, q⟩ := (show ∃ t, u = Value.float y t from rx); cases q; exact PySem.W.kia_one PySem.W.kitx_float I.kIn True.intro e (fun z => nomatch z) h
  | @lst a xs ea =>
    cases (show u = Value.ref a from rx)
    obtain ⟨_, _, n, _, h1⟩ := (show ObjOk X.prog X.w H s.heap a (.lst xs) from I.hok a _ ea)
    exact PySem.W.kia_one PySem.W.kitx_list I.kIn ⟨_, h1, rfl⟩ e (fun z => nomatch z) h
  | @frz a ob xs ea =>
    cases (show u = Value.ref a from rx)
    obtain ⟨_, _, _, n, _, h1⟩ := (show ObjOk X.prog X.w H s.heap a (.frz ob (.lst xs)) from I.hok a _ ea)
    exact PySem.W.kia_one PySem.W.kitx_list I.kIn ⟨_, h1, rfl⟩ e (fun z => nomatch z) h
  | @tup a xs ea =>
    cases (show u = Value.ref a from rx)
    obtain ⟨_, _, _, p⟩ := (show ObjOk X.prog X.w H s.heap a (.tup xs) from I.hok a _ ea)
    obtain ⟨o, h1, h2, _⟩ := p
    exact PySem.W.kia_one PySem.W.kitx_tuple I.kIn ⟨o, h1, h2⟩ e (fun z => nomatch z) h
  | @dK a kvs ea =>
    cases (show u = Value.ref a from rx)
    obtain ⟨_, _, vs, _, p⟩ := (show ObjOk X.prog X.w H s.heap a (.dK kvs) from I.hok a _ ea)
    obtain ⟨o, es, ep, h1, h2, _⟩ := p
    exact PySem.W.kia_one PySem.W.kitx_dict I.kIn ⟨o, h1, h2.1⟩ e (fun z => nomatch z) h
  | @dT a kvs ea =>
    cases (show u = Value.ref a from rx)
    obtain ⟨_, _, xs, _, o, es, ep, h1, h2, _⟩ := (show ObjOk X.prog X.w H s.heap a (.dT kvs) from I.hok a _ ea)
    exact PySem.W.kia_one PySem.W.kitx_dict I.kIn ⟨o, h1, h2.1⟩ e (fun z => nomatch z) h
  | @ins a C dx fs ea cl ha hn htk hm =>
    cases (show u = Value.ref a from rx)
    obtain ⟨mA, O, _⟩ := ins_get I.hok ea
    obtain ⟨od, J, _⟩ := O.look
    exact PySem.W.kia_one (PySem.W.kitx_own (cl.get _) cl.hd ha hn htk hm) I.kIn J e (fun z => nomatch z) h
end
end L2

namespace L2
open PySem PySem.Spec PyProof.Rows

/-! ### room -/
structure Room (k : Nat) (A : Around) : Prop where
  hd : A.handled = none
  dp : A.depth + 3 * k + 5 < recursionLimit
  un : A.units + 16 * k + 200 < cLine
theorem Room.mono {j k : Nat} {A : Around} (r : Room k A) (h : j ≤ k) : Room j A := ⟨r.hd, by have := r.dp; omega, by have := r.un; omega⟩
theorem Room.deeper {k : Nat} {A : Around} (r : Room (k + 1) A) (env : Env) : Room k (A.deeper env) :=
  ⟨r.hd, by have := r.dp; show A.depth + 1 + 3 * k + 5 < _; omega, by have := r.un; show A.units + 3 + 16 * k + 200 < _; omega⟩
theorem Room.depth {k : Nat} {A : Around} (r : Room k A) : A.depth < recursionLimit := by have := r.dp; omega
theorem Room.units {k : Nat} {A : Around} (r : Room k A) : A.units + 64 < cLine := by have := r.un; omega
/-! ### argument lists and displays -/
def tNil : TA := fun _ H Q => Q [] H
def tCons (ta : TE) (tr : TA) : TA := fun σ H Q => ta σ H fun x H1 => tr σ H1 fun xs H2 => Q (x :: xs) H2
section
variable {X : Cx} {e : Expr} {es : List Expr} {te : TE} {t : TA} {pos : Pos}
theorem pa_nil : PA X [] tNil := fun _ _ _ _ H Q I h => Calls.spliced_nil ⟨[], H, I, .nil, h⟩
theorem pa_cons (ha : PE X e te) (hr : PA X es t) (hs : starEach (e :: es) X.env = (false, eval e X.env) :: starEach es X.env := by rfl) : PA X (e :: es) (tCons te t) := by
  intro pos pins s σ H Q I h
  rw [hs]
  show wpAny _ _ (spliced ((false, eval e X.env) :: backTo pos (starEach es X.env))) _ _ s
  refine Calls.spliced_cons (thn (ha pins s σ H _ I h) fun u s1 ⟨x, H1, I1, r1, q1⟩ => ?_)
  exact thn (hr pos pins s1 σ H1 _ I1 q1) fun us s2 ⟨xs, H2, I2, r2, q2⟩ => ⟨x :: xs, H2, I2, .cons r1 r2, q2⟩

end

/-! ### what a def promises -/
/-- a def's promise: the bound arguments in the parameters' order, the heap, the wanted end, the wanted exception -/
abbrev Sp := List V → Hp → VK → XK → Prop
/-- how an exception lies behind a call (file 08 gives it): the callers' frames, abstract heap and state ahead of the call, the wish, the exception, the state -/
abbrev CXT := List Env → Hp → Shared → XK → Value → Shared → Prop

/-- the state at a call -/
structure Env0 (P : Program) (w : World) (K : PySem.W.Frag) (mg : Str → Option Value) (base : Heap) (A : Around) (outer : List Env) (s : Shared) (H : Hp) : Prop where
  frames : A.frames = some outer
  mod : Mod K mg base
  bs : ∀ b o, base.get? b = some o → s.heap.get? b = some o ∧ H b = none
  bsz : base.objs.size ≤ s.heap.objs.size
  funs : s.heap.FunFrames base outer
  frf : ∀ b ∈ frs outer, H b = none
  hok : HOk P w H s.heap
  bare : AllBare s.gens
/-- a call's end -/
def CE (outer : List Env) (P : Program) (w : World) (H : Hp) (s : Shared) (Q : VK) (u : Value) (s' : Shared) : Prop :=
  ∃ v H', s'.os = s.os ∧ AllBare s'.gens ∧ Un (frs outer) [] H H' s.heap s'.heap ∧ HOk P w H' s'.heap ∧ RelV v u ∧ Q v H'
def CR (CX : CXT) (outer : List Env) (P : Program) (w : World) (H : Hp) (s : Shared) (Q : VK) (E : XK) (r : Result) (s' : Shared) : Prop :=
  match r with
  | .ok (.ret u) => CE outer P w H s Q u s'
  | .ok _ => False
  | .error e => CX outer H s E e s'
structure FnOk (P : Program) (w : World) (K : PySem.W.Frag) (mg : Str → Option Value) (base : Heap) (CX : CXT) (k : Nat) (f : Addr) (fd : FuncData) (ps : List Str) (sp : Sp) : Prop where
  len : ∀ vs H Q E, sp vs H Q E → vs.length = ps.length
  run : ∀ (A : Around) (outer : List Env) (s : Shared) (H : Hp) (args : Args) (us : List Value) (vs : List V) (Q : VK) (E : XK), Room k A → Env0 P w K mg base A outer s H → BindsTo s fd args (ps.zip us) → Vals vs us → sp vs H Q E →
    codeAny (model P w) A (.call (.ref f) args) (CR CX outer P w H s Q E) s
section
variable {X : Cx} {pins : List (Addr × Obj)} {σ : St} {H : Hp} {s s' : Shared}
/-- from a body: what a callee wants -/
theorem Inv.env0 (I : Inv X pins σ H s) : Env0 X.prog X.w X.K X.mg X.base X.A X.stack s H :=
  ⟨I.ok.frames, I.ok.mod, I.bs, Nat.le_trans I.ok.bsz I.sz, I.stack, I.stkFree, I.hok, I.bare⟩
/-- behind a call -/
theorem Inv.after {Q : VK} {u : Value} (I : Inv X pins σ H s) (h : CE X.stack X.prog X.w H s Q u s') : EP X pins σ Q u s' := by
  obtain ⟨v, H', os, bare, un, hok, r, q⟩ := h
  obtain ⟨hh, g, d, t, os'⟩ := s'
  obtain rfl : os' = s.os := os
  exact ⟨v, H', I.call (h' := hh) (g' := g) (d' := d) (t' := t) (ch := []) un hok bare (fun b z => absurd z (by simp)), r, q⟩
end

/-! ### calls -/
/-- f(..): the written arguments, then the defaults dvs; E: what is wanted of an exception -/
def tCall (sp : Sp) (dvs : List V) (E : XK) (t : TA) : TE := fun σ H Q => t σ H fun vs H1 => sp (vs ++ dvs) H1 Q E
/-- how the parameters are bound: us the positional arguments, kw the keywords' values by name, ds the defaults that fill up -/
def Binds (K : PySem.W.Frag) (fd : FuncData) (ps : List Str) (ds : List Value) : Prop :=
  ∀ (s : Shared) (us : List Value), K.In s.heap → (us ++ ds).length = ps.length → BindsTo s fd ⟨us, []⟩ (ps.zip (us ++ ds))
/-- every parameter is given -/
theorem Binds.all {K : PySem.W.Frag} {fd : FuncData} {ps : List Str} (h : ∀ us : List Value, us.length = ps.length → bindArgs fd ⟨us, []⟩ = pure (ps.zip us)) : Binds K fd ps [] := fun s us _ hl => by
  rw [List.append_nil] at hl ⊢
  exact .of_eq (h us hl)

/-- an exception of a callee reaches what this body wants of exceptions -/
def Passes (CX : CXT) (X : Cx) (E : XK) : Prop := ∀ (pins : List (Addr × Obj)) (σ : St) (H : Hp) (s : Shared) (e : Value) (s' : Shared), Inv X pins σ H s → CX X.stack H s E e s' → X.xe e s'

section
variable {X : Cx} {CX : CXT} {k : Nat} {f C : Addr} {fd : FuncData} {ps : List Str} {sp : Sp} {dvs : List V} {ds : List Value} {E : XK} {x m : Str} {p pos apos : Pos} {e o : Expr} {es : List Expr} {ta : TE} {t : TA}

/-- the callee runs -/
theorem run_fn {pins : List (Addr × Obj)} {σ : St} {H : Hp} {s : Shared} {Q : VK} {us : List Value} {vs : List V} (F : FnOk X.prog X.w X.K X.mg X.base CX k f fd ps sp) (hr : Room k X.A) (hb : Binds X.K fd ps ds) (hd : Vals dvs ds) (hx : Passes CX X E)
    (I : Inv X pins σ H s) (r : Vals vs us) (h : sp (vs ++ dvs) H Q E) : wpAny (model X.prog X.w) X.A (call (.ref f) us) (EP X pins σ Q) X.xe s := by
  have r2 : Vals (vs ++ dvs) (us ++ ds) := r.append hd
  have hl : (us ++ ds).length = ps.length := by rw [← r2.length]; exact F.len _ _ _ _ h
  refine wpAny_call (codeAny_mono (F.run X.A X.stack s H ⟨us, []⟩ (us ++ ds) (vs ++ dvs) Q E hr I.env0 (hb s us I.kIn hl) r2 h) fun r s' hq => ?_)
  cases r with
  | error e => exact hx pins σ H s e s' I hq
  | ok fl =>
    cases fl with
    | ret u => exact I.after hq
    | next => exact False.elim hq
    | brk => exact False.elim hq
    | cont => exact False.elim hq

theorem pe_call (F : FnOk X.prog X.w X.K X.mg X.base CX k f fd ps sp) (hr : Room k X.A) (hg : Gl X x) (hm : X.mg x = some (.ref f)) (hk : PySem.W.keepIn X.K (.ref f) = true) (hb : Binds X.K fd ps ds) (hd : Vals dvs ds) (hx : Passes CX X E)
    (ha : PA X (e :: es) t) (hdb : (x == ("__debug__" : Str)) = false := by decide) (he : starEach (e :: es) X.env = (false, eval e X.env) :: starEach es X.env := by rfl) (hpl : (backTo pos (starEach es X.env)).any (·.1) = false := by rfl) :
    PE X (.Call (.Name x p) (e :: es) [] pos) (tCall sp dvs E t) := by
  intro pins s σ H Q I h
  refine wpAny_Call_Name_kw (ld_glob I hg hm ?_ hdb)
  refine PySem.W.callWith_K (h₀ := X.base) I.ok.mod.kin hk (thn (ha pos pins s σ H _ I h) fun us s1 ⟨vs, H1, I1, r, q⟩ => ⟨I1.kIn, ?_⟩) he hpl
  exact run_fn F hr hb hd hx I1 r q
end

/-! ### keywords -/
section
variable {X : Cx} {CX : CXT} {k : Nat} {f C : Addr} {fd : FuncData} {ps ks : List Str} {sp : Sp} {E : XK} {x m : Str} {p pos apos kpos : Pos} {e o : Expr} {es : List Expr} {kws : List Keyword} {te ta : TE} {t tk : TA} {nm : Option Str}
variable {g : List Value → List Value → List Value} {gV : List V → List V → List V}
end

/-! ### a def's body keeps its promise -/
/-- names: the parameters first -/
structure FnScope (N P : List Str) (sc : Scope) : Prop where
  kind : sc.kind = .function
  co : sc.isCoroutine = false
  gen : sc.isGenerator = false
  nd : N.Nodup
  pre : N.take P.length = P
  par : ∀ x ∈ P, sc.names.lookup x = some .local ∨ sc.names.lookup x = some .cell
  nofree : ∀ y ∈ sc.names, y.2 ≠ .free

theorem bindL_out {kindOf : Str → Option NameKind} {x : Str} : ∀ {binds : List (Str × Value)} {m : Str → Option Value}, (∀ v, (x, v) ∉ binds) → bindL kindOf binds m x = m x
  | [], _, _ => rfl
  | (n, v) :: r, m, h => by
    unfold bindL
    rw [bindL_out fun w hw => h w (List.mem_cons_of_mem _ hw)]
    split
    · have : x ≠ n := by rintro rfl; exact h v List.mem_cons_self
      simp [this]
    · rfl
theorem bindC_out {kindOf : Str → Option NameKind} {x : Str} : ∀ {binds : List (Str × Value)} {m : Str → Option Value}, (∀ v, (x, v) ∉ binds) → bindC kindOf binds m x = m x
  | [], _, _ => rfl
  | (n, v) :: r, m, h => by
    unfold bindC
    rw [bindC_out fun w hw => h w (List.mem_cons_of_mem _ hw)]
    split
    · rfl
    · have : x ≠ n := by rintro rfl; exact h v List.mem_cons_self
      simp [this]
theorem bindL_get {kindOf : Str → Option NameKind} {x : Str} {v : Value} : ∀ {P : List Str} {vs : List Value} {i : Nat} {m : Str → Option Value}, P.Nodup → P[i]? = some x → vs[i]? = some v → kindOf x = some .local →
    bindL kindOf (P.zip vs) m x = some v
  | [], _, _, _, _, h, _, _ => by simp at h
  | _ :: _, [], _, _, _, _, h, _ => by simp at h
  | p :: P, w :: vs, 0, m, nd, h1, h2, hk => by
    simp at h1 h2; subst h1; subst h2
    show bindL kindOf ((p, w) :: P.zip vs) m p = _
    unfold bindL
    rw [bindL_out fun v hv => (List.nodup_cons.mp nd).1 (List.of_mem_zip hv).1, if_pos hk]
    simp
  | p :: P, w :: vs, i + 1, m, nd, h1, h2, hk => by
    show bindL kindOf ((p, w) :: P.zip vs) m x = _
    unfold bindL
    exact bindL_get (i := i) (List.nodup_cons.mp nd).2 (by simpa using h1) (by simpa using h2) hk
theorem bindC_get {kindOf : Str → Option NameKind} {x : Str} {v : Value} : ∀ {P : List Str} {vs : List Value} {i : Nat} {m : Str → Option Value}, P.Nodup → P[i]? = some x → vs[i]? = some v → kindOf x ≠ some .local →
    bindC kindOf (P.zip vs) m x = some v
  | [], _, _, _, _, h, _, _ => by simp at h
  | _ :: _, [], _, _, _, _, h, _ => by simp at h
  | p :: P, w :: vs, 0, m, nd, h1, h2, hk => by
    simp at h1 h2; subst h1; subst h2
    show bindC kindOf ((p, w) :: P.zip vs) m p = _
    unfold bindC
    rw [bindC_out fun v hv => (List.nodup_cons.mp nd).1 (List.of_mem_zip hv).1, if_neg hk]
    simp
  | p :: P, w :: vs, i + 1, m, nd, h1, h2, hk => by
    show bindC kindOf ((p, w) :: P.zip vs) m x = _
    unfold bindC
    exact bindC_get (i := i) (List.nodup_cons.mp nd).2 (by simpa using h1) (by simpa using h2) hk

/-- the names' values at the entry -/
def start (N : List Str) (vs : List V) : St := vs.map some ++ List.replicate (N.length - vs.length) none

/-- the context of a def's body, at its entry; an exception leaves the frame, then lies as CX says -/
def cxOf (CX : CXT) (P : Program) (w : World) (K : PySem.W.Frag) (mg : Str → Option Value) (base : Heap) (N : List Str) (qual : Str) (scope : Scope) (f : Addr) (cd : Value) (A : Around) (outer : List Env) (s : Shared) (H : Hp) (E : XK) : Cx where
  prog := P
  w := w
  K := K
  mg := mg
  base := base
  A := A.deeper (envOfC qual scope s.heap.objs.size f cd)
  N := N
  s₀ := s
  H₀ := H
  env := envOfC qual scope s.heap.objs.size f cd
  outer := outer
  stack := envOfC qual scope s.heap.objs.size f cd :: outer
  ex := []
  calm := true
  fn := fun _ => true
  pn := []
  xe := fun e s' => wpAny (model P w) (A.deeper (envOfC qual scope s.heap.objs.size f cd)) (leaving (envOfC qual scope s.heap.objs.size f cd) e) (fun _ s'' => CX outer H s E e s'') (fun e' s'' => CX outer H s E e' s'') s'

theorem cell_has {sc : Scope} {n : Nat} {x : Str} (h : sc.names.lookup x = some .cell) : ∃ c, (cellsFrom n sc.names []).lookup x = some c := by
  have q := PySem.W.cellsFrom_some sc.names n [] (.inl h)
  exact Option.isSome_iff_exists.mp q

theorem inv_start {CX : CXT} {P : Program} {w : World} {K : PySem.W.Frag} {mg : Str → Option Value} {base : Heap} {N ps : List Str} {qual : Str} {scope : Scope} {f : Addr} {cd : Value} {A : Around} {outer : List Env} {s s1 : Shared} {H : Hp} {E : XK} {us : List Value} {vs : List V}
    (S : FnScope N ps scope) (hd : A.handled = none) (e0 : Env0 P w K mg base A outer s H) (hl : vs.length = ps.length) (r : Vals vs us)
    (x : InCallC s s.heap.objs.size (bindL (envOfC qual scope s.heap.objs.size f cd).kindOf (ps.zip us) fun _ => none) (cellsFrom (s.heap.objs.size + 1) scope.names []) (bindC (envOfC qual scope s.heap.objs.size f cd).kindOf (ps.zip us) fun _ => none) s1) :
    Inv (cxOf CX P w K mg base N qual scope f cd A outer s H E) [] (start N vs) H s1 := by
  have hpl : ps.length ≤ N.length := by have := congrArg List.length S.pre; rw [List.length_take] at this; omega
  obtain ⟨h1, tk, rfl, hk⟩ := x.done
  have noA : ∀ b : Addr, b ∉ (cxOf CX P w K mg base N qual scope f cd A outer s H E).ex := fun b z => absurd (show b ∈ ([] : List Addr) from z) (by simp)
  refine ⟨⟨e0.mod, S.kind, rfl, rfl, Nat.le_refl _, fun y z c h1 h2 => ?_, fun y hy => ?_, fun y c _ h => ?_, fun _ => hd, Around.frames_deeper e0.frames, .inr ⟨rfl, rfl⟩, fun b z => absurd z (noA b), e0.bs, e0.bsz, fun b _ _ => noA b, fun b z => absurd z (noA b), e0.funs, e0.frf⟩,
    rfl, e0.bare, Un.kept hk, ⟨_, x.toInCall.ns, fun i y v h1 h2 h3 => ?_⟩, fun y c h => ⟨_, x.cell y c h⟩, e0.hok.fresh (Nat.le_refl _), fun y c h => ?_, fun p hp => absurd (show p ∈ ([] : List (Addr × Obj)) from hp) (by simp), e0.hok.kept hk, ?_⟩
  · exact name_of_addr x.apart (PySem.mem_of_lookup h1) (PySem.mem_of_lookup h2)
  · have hy : scope.names.lookup y = some .cell ∨ scope.names.lookup y = some .free := hy
    rcases hy with hy | hy
    · exact cell_has hy
    · exact absurd rfl (S.nofree _ (PySem.mem_of_lookup hy))
  · exact Nat.le_of_lt (x.above y c (PySem.mem_of_lookup h))
  · have hi : i < vs.length := by
      unfold start at h2
      by_cases hi : i < vs.length
      · exact hi
      · rw [List.getElem?_append_right (by simpa using hi)] at h2
        rw [List.getElem?_replicate] at h2
        split at h2 <;> cases h2
    have ha : vs[i]? = some v := by
      unfold start at h2
      rw [List.getElem?_append_left (by simpa using hi), List.getElem?_map] at h2
      cases e : vs[i]? with
      | none => rw [e] at h2; cases h2
      | some a => rw [e] at h2; cases h2; rfl
    obtain ⟨u, hu, rv⟩ := r.get ha
    have hp : ps[i]? = some y := by
      rw [← S.pre, List.getElem?_take_of_lt (by omega)]; exact h1
    have ndP : ps.Nodup := by rw [← S.pre]; exact S.nd.sublist (List.take_sublist _ _)
    refine ⟨u, rv, ?_⟩
    rcases S.par y (List.mem_of_getElem? hp) with k | k
    · exact .inl ⟨k, bindL_get ndP hp hu k⟩
    · obtain ⟨c, e⟩ := cell_has (n := s.heap.objs.size + 1) k
      refine .inr ⟨.inl k, c, e, ?_⟩
      have q := x.cell y c e
      rw [bindC_get ndP hp hu (by show scope.names.lookup y ≠ _; rw [k]; decide)] at q
      exact q
  · exact e0.hok.fresh (Nat.le_of_lt (x.above y c (PySem.mem_of_lookup h)))
  · unfold start
    show _ = N.length
    rw [List.length_append, List.length_map, List.length_replicate]
    omega

/-- THE RULE: a def (or a method) of the text, by its body. The body's reading t is chosen for each entry; it is run at the parameters' values -/
theorem fn_of {CX : CXT} {P : Program} {w : World} {K : PySem.W.Frag} {mg : Str → Option Value} {base : Heap} {k : Nat} {f : Addr} {name qual : Str} {params : Arguments} {body : List Stmt} {scope : Scope} {dV kV doc pm cdv ct oc : Value} {an od : Option Addr}
    {osl : Array (Option Value)} {N ps : List Str} {sp : Sp} (lk : K.lookup f = some ⟨oc, od, .func (PySem.W.fnOf name qual params body scope dV kV doc pm an cdv ct), osl⟩) (hcd : PySem.W.codeIn K cdv qual = true) (S : FnScope N ps scope)
    (len : ∀ vs H Q E, sp vs H Q E → vs.length = ps.length)
    (hbody : ∀ (A : Around) (outer : List Env) (s : Shared) (H : Hp) (vs : List V) (Q : VK) (E : XK), Room k (A.deeper (envOfC qual scope s.heap.objs.size f cdv)) → sp vs H Q E →
      ∃ t, PSs (cxOf CX P w K mg base N qual scope f cdv A outer s H E) body t ∧ t { nx := fun _ H' => Q .non H', rt := Q } (start N vs) H) :
    FnOk P w K mg base CX (k + 1) f (PySem.W.fnOf name qual params body scope dV kV doc pm an cdv ct) ps sp := by
  refine ⟨len, fun A outer s H args us vs Q E hr e0 hb r hsp => ?_⟩
  have hl := len _ _ _ _ hsp
  have KX : K.In s.heap := e0.mod.kin.keeps fun b o e => (e0.bs b o e).1
  have lim : s.heap.NoLimit := e0.mod.nolimit.keeps fun b o e => (e0.bs b o e).1
  have hkind : ∀ y ∈ ps.zip us, scope.names.lookup y.1 = some .local ∨ (scope.names.lookup y.1 = some .cell ∧ ((cellsFrom (s.heap.objs.size + 1) scope.names []).lookup y.1).isSome = true) := fun ⟨n, v⟩ hy => by
    rcases S.par n (List.of_mem_zip hy).1 with q | q
    · exact .inl q
    · exact .inr ⟨q, PySem.W.cellsFrom_some _ _ _ (.inl q)⟩
  refine codeAny_call_function hr.depth (KX _ _ lk) rfl S.co S.gen rfl (PySem.W.codeRec_of KX hcd) (hb _ _ _ _ ?_)
  refine wpAny_newFunctionEnv_cells S.kind hkind fun env he s1 x => ?_
  subst he
  refine ⟨lim.keeps x.toInCall.keep, codeAny_func ?_⟩
  obtain ⟨t, ht, hq⟩ := hbody A outer s H vs Q E (hr.deeper _) hsp
  have I : Inv (cxOf CX P w K mg base N qual scope f cdv A outer s H E) [] (start N vs) H s1 := inv_start S hr.hd e0 hl r x
  refine wpAny_mono (ht [] s1 (start N vs) H _ I hq) (fun fl s' hs => ?_) fun e s' hs => hs
  have fin : ∀ {σ' : St} {H' : Hp} {v : V} {u : Value}, Inv (cxOf CX P w K mg base N qual scope f cdv A outer s H E) [] σ' H' s' → RelV v u → Q v H' → CE outer P w H s Q u s' :=
    fun {σ' H' v u} J rv q => ⟨v, H', J.os, J.bare, J.base, J.hok, rv, q⟩
  cases fl with
  | ret u =>
    obtain ⟨v, σ', H', J, rv, q⟩ := hs
    exact fin J rv q
  | next =>
    obtain ⟨σ', H', J, q⟩ := hs
    exact fin (v := V.non) (u := Value.none) J rfl q
  | brk =>
    obtain ⟨_, _, _, q⟩ := hs
    exact False.elim q
  | cont =>
    obtain ⟨_, _, _, q⟩ := hs
    exact False.elim q
end L2

namespace L2
open PySem PySem.Spec PyProof.Rows
section
variable {X : Cx} {x : Str} {p pos : Pos} {e : Expr} {es : List Expr} {t : TA} {id T : String} {r : List V → Hp → VK → Prop}

def tCB (r : List V → Hp → VK → Prop) (t : TA) : TE := fun σ H Q => t σ H fun vs H1 => r vs H1 Q
/-- f(e, ..), f a built-in function -/
theorem pe_callB (hc : CallR X (.builtin id) r) (hg : Gl X x) (hm : X.mg x = none) (hv : bootBuiltins x = some (.builtin id)) (ha : PA X (e :: es) t) (hn : x ≠ "__name__" := by decide) (hdb : (x == ("__debug__" : Str)) = false := by decide)
    (he : starEach (e :: es) X.env = (false, eval e X.env) :: starEach es X.env := by rfl) (hpl : (backTo pos (starEach es X.env)).any (·.1) = false := by rfl) : PE X (.Call (.Name x p) (e :: es) [] pos) (tCB r t) := by
  intro pins s σ H Q I h
  refine wpAny_Call_Name_kw (ld_blt I hg hm hv ?_ hn hdb)
  exact PyProof.Rows.callWith_builtin1 (thn (ha pos pins s σ H _ I h) fun us s1 ⟨vs, H1, I1, r1, q1⟩ => hc pins s1 σ H1 vs us Q I1 r1 q1) he hpl
/-- T(e, ..), T a built-in type -/
theorem pe_callTy (hc : CallR X (.type T) r) (hg : Gl X x) (hm : X.mg x = none) (hv : bootBuiltins x = some (.type T)) (ha : PA X (e :: es) t) (hn : x ≠ "__name__" := by decide) (hdb : (x == ("__debug__" : Str)) = false := by decide)
    (he : starEach (e :: es) X.env = (false, eval e X.env) :: starEach es X.env := by rfl) (hpl : (backTo pos (starEach es X.env)).any (·.1) = false := by rfl) : PE X (.Call (.Name x p) (e :: es) [] pos) (tCB r t) := by
  intro pins s σ H Q I h
  refine wpAny_Call_Name_kw (ld_blt I hg hm hv ?_ hn hdb)
  exact PyProof.Rows.callWith_type1 (thn (ha pos pins s σ H _ I h) fun us s1 ⟨vs, H1, I1, r1, q1⟩ => hc pins s1 σ H1 vs us Q I1 r1 q1) he hpl
end
end L2

namespace HT
open PySem PyProof.Rows

section
open PySem.SeqAt
open PySem.AutoSeq1 (wpAny_loadPart')
open PySem.MeetsSeq PySem.MeetsSeq2 PySem.MeetsSeq3

end

section
variable {prog : Program} {w : World} {A : Around} {E : Value → Shared → Prop} {s : Shared}

/-! ### t[a:b], not the whole -/
/-- a slice's bound as a place among n (d where it is left out) -/
def sIx (n d : Nat) : Option Int → Nat
  | none => d
  | some v => if v < 0 then (v + (n : Int)).toNat else min v.toNat n
end
end HT

namespace L2
open PySem PySem.Spec PyProof.Rows

/-! ### the parts of a slice -/
abbrev TO := St → Hp → (Option Int → Hp → Prop) → Prop
/-- a slice's part (left out, or an int) -/
def PO (X : Cx) (e : Option Expr) (t : TO) : Prop :=
  ∀ (pins : List (Addr × Obj)) (s : Shared) (σ : St) (H : Hp) (Q : Option Int → Hp → Prop), Inv X pins σ H s → t σ H Q →
    wpAny (model X.prog X.w) X.A (evalPart e X.env) (fun u s' => ∃ o H', Inv X pins σ H' s' ∧ IsPart u o ∧ Q o H') X.xe s
def tNoPart : TO := fun _ H Q => Q none H
theorem intsAre_of {ns : List Int} : ∀ {us : List Value}, Vals (ns.map V.int) us → IntsAre us ns := by
  induction ns with
  | nil => intro us r; rw [List.map_nil] at r; cases r; exact .nil
  | cons n ns ih =>
    intro us r
    rw [List.map_cons] at r
    cases r with
    | cons r1 r2 =>
      obtain ⟨t, e⟩ := r1
      subst e
      exact .cons n t (ih r2)

section
variable {X : Cx} {e : Expr} {te : TE} {lo hi : Option Expr} {tl th : TO} {pos p2 : Pos}

theorem po_none : PO X none tNoPart := by
  intro pins s σ H Q I h
  rw [evalPart_none]
  exact wpAny_pure ⟨none, H, I, .none, h⟩
/-- what a slice of a value is, by values: the slice object stands at sl -/
def SlR (X : Cx) (r : V → Option Int → Option Int → Hp → VK → Prop) : Prop :=
  ∀ (pins : List (Addr × Obj)) (s : Shared) (σ : St) (H : Hp) (x : V) (v vl vu : Value) (lo hi : Option Int) (sl : Addr) (Q : VK), Inv X pins σ H s → RelV x v → s.heap.IsSliceOf sl vl vu .none → IsPart vl lo → IsPart vu hi → r x lo hi H Q →
    ∃ T id, typeLookup (.type T) "__getitem__" = pure (some (.builtin id)) ∧ s.TypeIs v T ∧ wpAny (model X.prog X.w) X.A (getItem v (.ref sl)) (EP X pins σ Q) X.xe s
def tSl (r : V → Option Int → Option Int → Hp → VK → Prop) (te : TE) (tl th : TO) : TE := fun σ H Q => te σ H fun x H1 => tl σ H1 fun l H2 => th σ H2 fun u H3 => r x l u H3 Q
/-- a[lo:hi], any a -/
theorem pe_slice {r : V → Option Int → Option Int → Hp → VK → Prop} (hr : SlR X r) (he : PE X e te) (hl : PO X lo tl) (hu : PO X hi th) : PE X (.Subscript e (.Slice lo hi none p2) pos) (tSl r te tl th) := by
  intro pins s σ H Q I h
  refine Subscript_ (thn (he pins s σ H _ I h) fun v s1 ⟨x, H1, I1, r1, q1⟩ => ?_)
  refine wpAny_Slice (thn (hl pins s1 σ H1 _ I1 q1) fun vl s2 ⟨l, H2, I2, pl, q2⟩ => thn (hu pins s2 σ H2 _ I2 q2) fun vu s3 ⟨u, H3, I3, pu, q3⟩ => ?_)
  rw [evalPart_none]
  refine wpAny_pure ?_
  have I4 : Inv X pins σ H3 { s3 with heap := s3.heap.push { cls := .type "slice", data := .fields #[vl, vu, .none] } } := I3.kept (t' := s3.toks) fun b ob q => Heap.get?_push_of_some _ q
  obtain ⟨T, id, hT, ht, hg⟩ := hr pins { s3 with heap := s3.heap.push { cls := .type "slice", data := .fields #[vl, vu, .none] } } σ H3 x v vl vu l u s3.heap.objs.size Q I4 r1 (Heap.IsSliceOf.new ..) pl pu q3
  show wpAny (model X.prog X.w) X.A (subscriptTail e (.Slice lo hi none p2) v (.ref s3.heap.objs.size)) (EP X pins σ Q) X.xe { s3 with heap := s3.heap.push { cls := .type "slice", data := .fields #[vl, vu, .none] } }
  exact tail_any (ops := [.ref s3.heap.objs.size, v]) ht hT hg (by with_unfolding_all rfl)

/-- the items of xs[lo:hi] -/
def cutV (xs : List V) (lo hi : Option Int) : List V := (xs.drop (HT.sIx xs.length 0 lo)).take (HT.sIx xs.length xs.length hi - HT.sIx xs.length 0 lo)
theorem cutV_length (xs : List V) (lo hi : Option Int) : (cutV xs lo hi).length ≤ xs.length := by
  unfold cutV
  rw [List.length_take, List.length_drop]
  omega
/-! ### t < u, t + u -/
end
end L2

namespace L2
open PySem PySem.Spec PyProof.Rows

/-! ### places -/
/-- the place that an index of any sign means -/
def ixN (n : Nat) (i : Int) : Option Nat := if 0 ≤ i then (if i < n then some i.toNat else none) else if -(n : Int) ≤ i then some (i + n).toNat else none
def atI {α : Type} (xs : List α) (i : Int) : Option α := (ixN xs.length i).bind fun j => xs[j]?
theorem ixN_seq {n : Nat} {i : Int} {j : Nat} (h : ixN n i = some j) : seqIndex? i n = some j ∧ j < n ∧ -(n : Int) ≤ i ∧ i < n := by
  unfold ixN at h
  by_cases h0 : 0 ≤ i
  · rw [if_pos h0] at h
    by_cases h1 : i < n
    · rw [if_pos h1] at h
      have e : i.toNat = j := Option.some.inj h
      exact ⟨by rw [seqIndex_of h0 h1, e], by omega, by omega, h1⟩
    · rw [if_neg h1] at h; cases h
  · rw [if_neg h0] at h
    by_cases h1 : -(n : Int) ≤ i
    · rw [if_pos h1] at h
      have e : (i + n).toNat = j := Option.some.inj h
      exact ⟨by rw [seqIndex_neg (by omega) h1, e], by omega, h1, by omega⟩
    · rw [if_neg h1] at h; cases h
theorem atI_get {α : Type} {xs : List α} {i : Int} {v : α} (h : atI xs i = some v) : ∃ j, seqIndex? i xs.length = some j ∧ xs[j]? = some v ∧ j < xs.length ∧ -(xs.length : Int) ≤ i ∧ i < xs.length := by
  unfold atI at h
  cases e : ixN xs.length i with
  | none => rw [e] at h; cases h
  | some j =>
    rw [e] at h
    obtain ⟨h1, h2, h3, h4⟩ := ixN_seq e
    exact ⟨j, h1, h, h2, h3, h4⟩
theorem atI_nat {α : Type} {xs : List α} {j : Nat} {v : α} (h : xs[j]? = some v) : atI xs (j : Int) = some v := by
  have hj : j < xs.length := (List.getElem?_eq_some_iff.mp h).1
  have e : ixN xs.length (j : Int) = some j := by
    unfold ixN
    rw [if_pos (by omega), if_pos (by omega)]; simp
  unfold atI; rw [e]; exact h
/-! ### what may be subscripted -/
/-- what stands as an index of a plain subscript -/
def PlainIx (b : Expr) : Prop := ∀ o i, subscripted b false o i = operate [o, i] (getItem o i)
/-- a subscript by values -/
def IxR (X : Cx) (r : R2) : Prop :=
  ∀ (value slice : Expr) (pins : List (Addr × Obj)) (s : Shared) (σ : St) (H : Hp) (x y : V) (v u : Value) (Q : VK), Inv X pins σ H s → RelV x v → RelV y u → r x y H Q →
    subscripted slice false v u = operate [v, u] (getItem v u) → wpAny (model X.prog X.w) X.A (subscriptTail value slice v u) (EP X pins σ Q) X.xe s
/-- a call of a builtin's method by values: the receiver, the arguments -/
def MtR (X : Cx) (id : String) (r : V → List V → Hp → VK → Prop) : Prop :=
  ∀ (pins : List (Addr × Obj)) (s : Shared) (σ : St) (H : Hp) (x : V) (xs : List V) (v : Value) (us : List Value) (Q : VK), Inv X pins σ H s → RelV x v → Vals xs us → r x xs H Q →
    wpAny (model X.prog X.w) X.A (call (.builtin id) (v :: us)) (EP X pins σ Q) X.xe s
section
variable {X : Cx} {a b : Expr} {ta tb : TE} {pos : Pos}
/-- a[b] -/
theorem pe_ix {r : R2} (hr : IxR X r) (ha : PE X a ta) (hb : PE X b tb) (hs : PlainIx b) : PE X (.Subscript a b pos) (tOp r ta tb) := by
  intro pins s σ H Q I h
  exact Subscript_ (binT ha hb I h fun v u s2 x y H2 I2 rx ry q => hr a b pins s2 σ H2 x y v u Q I2 rx ry q (hs _ _))

def rIxL (K : PySem.W.Frag) : R2 := fun x y H Q => ∃ p xs i v, x = .ref p ∧ y = .int i ∧ SqL K H p xs ∧ atI xs i = some v ∧ Q v H
def rIxT (K : PySem.W.Frag) : R2 := fun x y H Q => ∃ p xs i v, x = .ref p ∧ y = .int i ∧ SqT K H p xs ∧ atI xs i = some v ∧ Q v H
def rIxS : R2 := fun x y H Q => ∃ z i c, x = .str z ∧ y = .int i ∧ z.length ≤ sizeLine ∧ atI z.cps.toList i = some c ∧ Q (.str ⟨#[c]⟩) H
theorem ix_list : IxR X (rIxL X.K) := by
  intro value slice pins s σ H x y v u Q I rx ry h hs
  obtain ⟨p, xs, i, z, rfl, rfl, hq, he, q⟩ := h
  cases rx
  obtain ⟨t, rfl⟩ := ry
  obtain ⟨its, r, pl, hz⟩ := I.list hq
  obtain ⟨j, h1, h2, h3, h4, h5⟩ := atI_get he
  obtain ⟨w, ew, rw'⟩ := r.get h2
  have hl := r.length
  have hn := line63
  have fin : EP X pins σ Q w s := ⟨z, H, I, rw', q⟩
  by_cases h0 : 0 ≤ i
  · have hj : i.toNat = j := by
      rw [seqIndex_of h0 h5] at h1
      exact Option.some.inj h1
    exact item_listR pl.isList h0 (by omega) (by rw [hj]; simpa using ew) fin hs
  · have hj : (i + (its.toArray.size : Int)).toNat = j := by
      rw [seqIndex_neg (by omega) h4] at h1
      rw [List.size_toArray, ← hl]
      exact Option.some.inj h1
    exact subscriptTail_builtinR (x := w) pl.isList.typeIs slot_list_getitem.lookup
      (wpAny_getItem_list_neg (Q := fun r s' => r = w ∧ EP X pins σ Q r s') pl.isList (by omega) (by rw [List.size_toArray] <;> omega) (by omega) (by rw [hj]; simpa using ew) ⟨rfl, fin⟩) hs
theorem ix_tup : IxR X (rIxT X.K) := by
  intro value slice pins s σ H x y v u Q I rx ry h hs
  obtain ⟨p, xs, i, z, rfl, rfl, hq, he, q⟩ := h
  cases rx
  obtain ⟨t, rfl⟩ := ry
  obtain ⟨its, r, pl, hz⟩ := I.tuple hq
  obtain ⟨j, h1, h2, h3, h4, h5⟩ := atI_get he
  obtain ⟨w, ew, rw'⟩ := r.get h2
  have hl := r.length
  have hn := line63
  have fin : EP X pins σ Q w s := ⟨z, H, I, rw', q⟩
  exact subscriptTail_builtinR (x := w) pl.typeIs slot_tuple_getitem.lookup
    (getItem_tuple (j := j) (Q := fun r s' => r = w ∧ EP X pins σ Q r s') pl (by omega) (by omega) (by rw [List.size_toArray, ← hl]; exact h1) (by simpa using ew) ⟨rfl, fin⟩) hs
theorem ix_str : IxR X rIxS := by
  intro value slice pins s σ H x y v u Q I rx ry h hs
  obtain ⟨z, i, c, rfl, rfl, hz, he, q⟩ := h
  obtain ⟨t, rfl⟩ := rx
  obtain ⟨t', rfl⟩ := ry
  obtain ⟨j, h1, h2, h3, h4, h5⟩ := atI_get he
  have hl : z.cps.toList.length = z.length := by simp [Str.length]
  rw [hl] at h1 h4 h5
  have hn := line63
  exact tail_any (typeIs_str s z t) slot_str_getitem.lookup (getItem_str (c := c) (by
    have e1 : decide (i < -(2 ^ 63 : Int)) = false := decide_eq_false (by omega)
    have e2 : decide (i ≥ 2 ^ 63) = false := decide_eq_false (by omega)
    rw [e1, e2, Bool.or_false]) (by rw [h1]; simpa using h2) ⟨.str ⟨#[c]⟩, H, I.tok _, ⟨_, rfl⟩, q⟩) hs
/-! ### xs[i] = v, any sign -/
/-- the list's object behind a store -/
theorem mapSeq_set (its : List Value) (n j : Nat) (u : Value) : Obj.mapSeq (·.setIfInBounds j u) { cls := .type "list", data := .seq its.toArray n } = { cls := .type "list", data := .seq (its.set j u).toArray n } := by
  simp [Obj.mapSeq]
theorem Inv.lst {pins : List (Addr × Obj)} {σ : St} {H : Hp} {s : Shared} {p : Addr} {xs : List V} (I : Inv X pins σ H s) (h : H p = some (.lst xs)) :
    ∃ (its : List Value) (n : Nat), Vals xs its ∧ s.heap.get? p = some { cls := .type "list", data := .seq its.toArray n } ∧ xs.length ≤ sizeLine := by
  obtain ⟨z, its, n, r, e⟩ := I.hok p _ h
  exact ⟨its, n, r, e, z⟩
/-- the list at p is written by an update of its object -/
theorem Inv.lstUpd {pins : List (Addr × Obj)} {σ : St} {H : Hp} {s : Shared} {p : Addr} {xs ys : List V} {its its' : List Value} {n n' : Nat} {f : Obj → Obj} (I : Inv X pins σ H s) (h : H p = some (.lst xs))
    (ho : s.heap.get? p = some { cls := .type "list", data := .seq its.toArray n }) (hf : f { cls := .type "list", data := .seq its.toArray n } = { cls := .type "list", data := .seq its'.toArray n' }) (r : Vals ys its') (hz : ys.length ≤ sizeLine) (t : Nat) :
    Inv X pins σ (upd H p (.lst ys)) { s with heap := s.heap.update p f, toks := t } := by
  have e : (s.heap.update p f).get? p = some { cls := .type "list", data := .seq its'.toArray n' } := by
    rw [Heap.get?_update_self f ho (by rw [hf] <;> rfl), hf]
  refine I.write (x := p) (e := p) (by rw [h]; trivial) (.inl rfl) (fun b u hb q => (Heap.get?_update_other _ _ (Ne.symm hb)).trans q) ⟨_, e⟩ ?_
  exact ⟨hz, its', n', r, e⟩
def rSetL : V → V → V → Hp → (Hp → Prop) → Prop := fun o i v H Q => ∃ p xs k j, o = .ref p ∧ i = .int k ∧ H p = some (.lst xs) ∧ ixN xs.length k = some j ∧ Q (upd H p (.lst (xs.set j v)))
theorem set_list : PSet X rSetL := by
  intro pins s σ H o i v ov iv u Q I ro ri rv h
  obtain ⟨p, xs, k, j, rfl, rfl, hp, hj, q⟩ := h
  cases ro
  obtain ⟨t, rfl⟩ := ri
  obtain ⟨its, n, r, ho, hz⟩ := I.lst hp
  obtain ⟨h1, h2, h3, h4⟩ := ixN_seq hj
  have hl := r.length
  have hn := line63
  have I' : Inv X pins σ (upd H p (.lst (xs.set j v))) { s with heap := s.heap.update p (Obj.mapSeq (·.setIfInBounds j u)) } :=
    I.lstUpd hp ho (mapSeq_set its n j u) (r.set rv j) (by rw [List.length_set]; exact hz) s.toks
  by_cases h0 : 0 ≤ k
  · have hk : k.toNat = j := by
      rw [seqIndex_of h0 h4] at h1
      exact Option.some.inj h1
    exact PySem.W.ki_setAt ho h0 (by omega) (by rw [List.size_toArray, ← hl]; exact h4) (by rw [hk]; exact ⟨_, I', q⟩)
  · have hk : (k + (its.toArray.size : Int)).toNat = j := by
      rw [seqIndex_neg (by omega) h3] at h1
      rw [List.size_toArray, ← hl]
      exact Option.some.inj h1
    exact PySem.W.ki_setBack ho (by omega) (by rw [List.size_toArray, ← hl]; exact h3) (by omega) (by rw [hk]; exact ⟨_, I', q⟩)

/-! ### slices -/
theorem slice_bounds (lo hi : Option Int) (n : Nat) : (sliceBounds lo hi none n).1 = ((HT.sIx n 0 lo : Nat) : Int) ∧ (sliceBounds lo hi none n).2.1 = ((HT.sIx n n hi : Nat) : Int) ∧ (sliceBounds lo hi none n).2.2 = 1 := by
  refine ⟨?_, ?_, rfl⟩
  · cases lo with
    | none => simp [sliceBounds, HT.sIx]
    | some i =>
      simp only [sliceBounds, HT.sIx, Option.getD_none, show (1 : Int) > 0 by decide, if_true]
      by_cases h : i < 0
      · simp only [h, if_true] <;> omega
      · simp only [h, if_false] <;> omega
  · cases hi with
    | none => simp [sliceBounds, HT.sIx]
    | some i =>
      simp only [sliceBounds, HT.sIx, Option.getD_none, show (1 : Int) > 0 by decide, if_true]
      by_cases h : i < 0
      · simp only [h, if_true] <;> omega
      · simp only [h, if_false] <;> omega
theorem slicePick_cut (its : List Value) (lo hi : Option Int) : slicePick its.toArray lo hi none = ((its.drop (HT.sIx its.length 0 lo)).take (HT.sIx its.length its.length hi - HT.sIx its.length 0 lo)).toArray := by
  obtain ⟨h1, h2, h3⟩ := slice_bounds lo hi its.toArray.size
  unfold slicePick
  rw [h1, h2, h3]
  simp only [sliceRange_one, pick_run, List.size_toArray] <;> rfl
/-- xs[lo:hi] of a list: a new list -/
def rSlL (K : PySem.W.Frag) : V → Option Int → Option Int → Hp → VK → Prop := fun x lo hi H Q => ∃ a xs, x = .ref a ∧ SqL K H a xs ∧ ∀ p, H p = none → Q (.ref p) (upd H p (.lst (cutV xs lo hi)))
theorem sl_list : SlR X (rSlL X.K) := by
  intro pins s σ H x v vl vu lo hi sl Q I rx hs pl pu h
  obtain ⟨a, xs, rfl, hx, q⟩ := h
  cases rx
  obtain ⟨its, r, ht, hz⟩ := I.list hx
  have hlen := r.length
  refine ⟨"list", _, slot_list_getitem.lookup, ht.isList.typeIs, ?_⟩
  refine wpAny_getItem_list_slice ht.isList hs pl pu .none (by simp) ?_ (by rw [List.size_toArray] <;> omega)
  rw [slicePick_cut, ← hlen]
  refine ⟨.ref s.heap.objs.size, _, I.laid (t' := s.toks) (o := .lst (cutV xs lo hi)) (fun b ob q => Heap.get?_push_of_some _ q) (Nat.le_refl _) ?_, rfl, q _ (I.hok.fresh (Nat.le_refl _))⟩
  exact ⟨Nat.le_trans (cutV_length xs lo hi) hz, _, 0, (r.drop (HT.sIx xs.length 0 lo)).take (HT.sIx xs.length xs.length hi - HT.sIx xs.length 0 lo), Heap.get?_push_size _ rfl⟩

/-! ### in, not in: flat items -/
def flatV : V → Bool
  | .non => true
  | .bl _ => true
  | .int _ => true
  | .str _ => true
  | _ => false
/-- == of flat values -/
def eqV : V → V → Bool
  | .non, .non => true
  | .bl a, .bl b => a == b
  | .bl a, .int b => (if a then 1 else 0) == b
  | .int a, .bl b => a == (if b then 1 else 0)
  | .int a, .int b => a == b
  | .str a, .str b => a == b
  | _, _ => false
theorem eqAt_V {A : Around} {s : Shared} {y x : V} {u v : Value} (ry : RelV y u) (rx : RelV x v) (fy : flatV y = true) (fx : flatV x = true) : SeqAt.EqAt A s u v (eqV y x) := by
  cases y with
  | non =>
    cases ry
    cases x with
    | non => cases rx; exact SeqAt.EqAt.same _
    | bl b => cases rx; exact SeqAt.EqAt.none_bool b
    | int b => obtain ⟨t, rfl⟩ := rx; exact SeqAt.EqAt.none_int b t
    | str b => obtain ⟨t, rfl⟩ := rx; exact SeqAt.EqAt.none_str b t
    | _ => exact absurd (show false = true from fx) Bool.false_ne_true
  | bl a =>
    cases ry
    cases x with
    | non => cases rx; exact SeqAt.EqAt.bool_none a
    | bl b => cases rx; exact SeqAt.EqAt.bool_bool a b
    | int b => obtain ⟨t, rfl⟩ := rx; exact SeqAt.EqAt.bool_int a b t
    | str b => obtain ⟨t, rfl⟩ := rx; exact SeqAt.EqAt.bool_str a b t
    | _ => exact absurd (show false = true from fx) Bool.false_ne_true
  | int a =>
    obtain ⟨t', rfl⟩ := ry
    cases x with
    | non => cases rx; exact SeqAt.EqAt.int_none a t'
    | bl b => cases rx; exact SeqAt.EqAt.int_bool a t' b
    | int b => obtain ⟨t, rfl⟩ := rx; exact SeqAt.EqAt.int_int a t' b t
    | str b => obtain ⟨t, rfl⟩ := rx; exact SeqAt.EqAt.int_str a t' b t
    | _ => exact absurd (show false = true from fx) Bool.false_ne_true
  | str a =>
    obtain ⟨t', rfl⟩ := ry
    cases x with
    | non => cases rx; exact SeqAt.EqAt.str_none a t'
    | bl b => cases rx; exact SeqAt.EqAt.str_bool a t' b
    | int b => obtain ⟨t, rfl⟩ := rx; exact SeqAt.EqAt.str_int a t' b t
    | str b => obtain ⟨t, rfl⟩ := rx; exact SeqAt.EqAt.str_str a t' b t
    | _ => exact absurd (show false = true from fx) Bool.false_ne_true
  | _ => exact absurd (show false = true from fy) Bool.false_ne_true
/-! ### len, list(x), tuple(x) of any list or tuple that is read -/
theorem call_len_seq : CallR X (.builtin "len") (fun xs H Q => ∃ p ys, xs = [.ref p] ∧ (SqL X.K H p ys ∨ SqT X.K H p ys) ∧ Q (.int ys.length) H) := by
  intro pins s σ H xs us Q I r h
  obtain ⟨p, ys, rfl, hq, q⟩ := h
  obtain ⟨u, rfl, rx⟩ := vals1 r
  cases rx
  have hn := line63
  rcases hq with hq | hq
  · obtain ⟨its, r', pl, hz⟩ := I.list hq
    have hlen := r'.length
    exact Calls.call_len_list pl.isList (by simp only [List.size_toArray] <;> omega) ⟨.int ys.length, H, I.tok _, ⟨s.toks + 1, by rw [List.size_toArray, hlen]⟩, q⟩
  · obtain ⟨its, r', pl, hz⟩ := I.tuple hq
    have hlen := r'.length
    exact len_tuple pl (by simp only [List.size_toArray] <;> omega) ⟨.int ys.length, H, I.tok _, ⟨s.toks + 1, by rw [List.size_toArray, hlen]⟩, q⟩
theorem call_len_str : CallR X (.builtin "len") (fun xs H Q => ∃ z, xs = [.str z] ∧ z.length ≤ sizeLine ∧ Q (.int z.length) H) := by
  intro pins s σ H xs us Q I r h
  obtain ⟨z, rfl, hz, q⟩ := h
  obtain ⟨u, rfl, t, rfl⟩ := vals1 r
  have hn := line63
  exact len_str (by omega) ⟨.int z.length, H, I.tok _, ⟨_, rfl⟩, q⟩
theorem call_tuple_of : CallR X (.type "tuple") (fun xs H Q => ∃ p ys, xs = [.ref p] ∧ ((SqL X.K H p ys ∧ ∀ l, H l = none → Q (.ref l) (upd H l (.tup ys))) ∨ (SqT X.K H p ys ∧ Q (.ref p) H))) := by
  intro pins s σ H xs us Q I r h
  obtain ⟨p, ys, rfl, h⟩ := h
  obtain ⟨u, rfl, rx⟩ := vals1 r
  cases rx
  rcases h with ⟨hq, q⟩ | ⟨hq, q⟩
  · obtain ⟨its, r', pl, hz⟩ := I.list hq
    have hlen := r'.length
    refine call_tuple_list pl.isList (fun h' kp => ?_) (by simp only [List.size_toArray] <;> omega)
    have I1 : Inv X pins σ H { s with heap := h' } := I.kept (t' := s.toks) kp
    have I2 : Inv X pins σ (upd H h'.objs.size (.tup ys)) { s with heap := h'.push { cls := .type "tuple", data := .seq its.toArray } } :=
      I1.laid (t' := s.toks) (fun b o e => Heap.get?_push_of_some _ e) (Nat.le_refl _) (show ObjOk X.prog X.w _ _ _ (.tup ys) from ⟨hz, its, r', IsTup.new _ _⟩)
    exact ⟨.ref h'.objs.size, _, I2, rfl, q _ (I1.hok.fresh (Nat.le_refl _))⟩
  · obtain ⟨its, r', pl, hz⟩ := I.tuple hq
    exact call_tuple_same pl ⟨.ref p, H, I, rfl, q⟩

/-! ### the call of a builtin's method: o.m(..) -/
/-- the value is of that builtin type -/
def tyV (K : PySem.W.Frag) (T : String) (x : V) (H : Hp) : Prop := match x with
  | .str _ => T = "str"
  | .int _ => T = "int"
  | .ref p => (T = "list" ∧ ∃ xs, SqL K H p xs) ∨ (T = "tuple" ∧ ∃ o, K.lookup p = some o ∧ o.cls = .type "tuple" ∧ o.dict = none) ∨
      (T = "dict" ∧ ((∃ kvs, H p = some (.dK kvs)) ∨ ∃ kvs, H p = some (.dT kvs))) ∨ (T = "set" ∧ ∃ S n, H p = some (.set S n))
  | _ => False
theorem tyV_is {pins : List (Addr × Obj)} {σ : St} {H : Hp} {s : Shared} {T : String} {x : V} {v : Value} (I : Inv X pins σ H s) (r : RelV x v) (ty : tyV X.K T x H) :
    s.TypeIs v T ∧ ∀ a, v = .ref a → ∃ ob, s.heap.get? a = some ob ∧ ob.dict = none := by
  cases x with
  | str z =>
    obtain ⟨t, rfl⟩ := r
    cases (show T = "str" from ty)
    exact ⟨typeIs_str s z t, fun _ e => nomatch e⟩
  | int i =>
    obtain ⟨t, rfl⟩ := r
    cases (show T = "int" from ty)
    exact ⟨typeIs_int s i t, fun _ e => nomatch e⟩
  | ref p =>
    cases r
    rcases ty with ⟨rfl, xs, hq⟩ | ⟨rfl, o, hk, hc, hd⟩ | ⟨rfl, hk⟩ | ⟨rfl, S, n, hk⟩
    · obtain ⟨its, _, pl, _⟩ := I.list hq
      refine ⟨pl.isList.typeIs, fun a e => ?_⟩
      cases e
      obtain ⟨o, n, e, c, hd, _⟩ := pl
      exact ⟨o, e, hd⟩
    · refine ⟨⟨o, I.kIn p o hk, hc⟩, fun a e => ?_⟩
      cases e
      exact ⟨o, I.kIn _ o hk, hd⟩
    · have z : ∃ o, s.heap.get? p = some o ∧ o.ExactDict := by
        rcases hk with ⟨kvs, hk⟩ | ⟨kvs, hk⟩
        · obtain ⟨_, _, _, _, o, _, _, e, ex, _⟩ := I.hok p _ hk
          exact ⟨o, e, ex⟩
        · obtain ⟨_, _, _, _, o, _, _, e, ex, _⟩ := I.hok p _ hk
          exact ⟨o, e, ex⟩
      obtain ⟨o, e, ex⟩ := z
      refine ⟨⟨o, e, ex.1⟩, fun a e2 => ?_⟩
      cases e2
      exact ⟨o, e, ex.2.1⟩
    · obtain ⟨o, _, _, _, e, ex, _⟩ := I.hok p _ hk
      refine ⟨⟨o, e, ex.1⟩, fun a e2 => ?_⟩
      cases e2
      exact ⟨o, e, ex.2.1⟩
  | _ => exact False.elim ty
variable {o e : Expr} {es : List Expr} {to : TE} {t : TA} {name : Str} {apos cpos : Pos} {T id : String} {r : V → List V → Hp → VK → Prop}
/- xs.append(e), list.index on a module's tuple .. are MtR facts of 06m -/
end
end L2

namespace L2
open PySem PySem.Spec PyProof.Rows

def MtM (X : Cx) (id : String) (r : V → List V → Hp → VK → Prop) : Prop :=
  ∀ (pins : List (Addr × Obj)) (s : Shared) (σ : St) (H : Hp) (x : V) (xs : List V) (v : Value) (us : List Value) (Q : VK), Inv X pins σ H s → RelV x v → Vals xs us → r x xs H Q →
    wpAny (model X.prog X.w) X.A (call (.builtin id) (v :: us)) (EP X pins σ Q) X.xe s

/-! ### lists of values -/
theorem Vals.one : ∀ {x : V} {us : List Value}, Vals [x] us → ∃ u, us = [u] ∧ RelV x u
  | _, _, .cons r .nil => ⟨_, rfl, r⟩
theorem Vals.rep {xs : List V} {us : List Value} (h : Vals xs us) : ∀ k : Nat, Vals (List.replicate k xs).flatten (List.replicate k us).flatten
  | 0 => .nil
  | k + 1 => by
    rw [List.replicate_succ, List.replicate_succ, List.flatten_cons, List.flatten_cons]
    exact Vals.append h (Vals.rep h k)
theorem foldl_rep (its : List Value) : ∀ (k : Nat) (acc : List Value),
    List.foldl (fun x1 x2 => x1 ++ x2) acc.toArray (List.replicate k its.toArray) = (acc ++ (List.replicate k its).flatten).toArray
  | 0, acc => by simp
  | k + 1, acc => by
    have e : acc.toArray ++ its.toArray = (acc ++ its).toArray := by simp
    have e2 : (acc ++ its) ++ (List.replicate k its).flatten = acc ++ (List.replicate (k + 1) its).flatten := by
      rw [List.replicate_succ, List.flatten_cons, List.append_assoc]
    rw [← e2, ← foldl_rep its k (acc ++ its), ← e, List.replicate_succ, List.foldl_cons]

section
variable {X : Cx} {pins : List (Addr × Obj)} {σ : St} {H : Hp} {s : Shared} {l b : Addr} {xs ys zs : List V}

/-! ### the two steps: a tracked list is rewritten, a new list is laid -/
theorem Inv.lset {its its' : List Value} {n : Nat} {f : Array Value → Array Value} {t' : Nat} (I : Inv X pins σ H s) (hH : H l = some (.lst xs))
    (e : s.heap.get? l = some { cls := .type "list", data := .seq its.toArray n }) (hf : f its.toArray = its'.toArray) (hv : Vals ys its') (hz : ys.length ≤ sizeLine) :
    Inv X pins σ (upd H l (.lst ys)) { s with heap := s.heap.update l (Obj.mapSeq f), toks := t' } := by
  have q := PySem.IsL.update e f
  rw [hf] at q
  refine I.write (x := l) (e := l) (by rw [hH]; exact trivial) (.inl rfl) (fun b' u hb hu => (Heap.get?_update_other s.heap (Obj.mapSeq f) (Ne.symm hb)).trans hu) ⟨_, q⟩ ?_
  exact ⟨hz, its', _, hv, q⟩
theorem Inv.lnew {its : List Value} {t' : Nat} (I : Inv X pins σ H s) (hv : Vals ys its) (hz : ys.length ≤ sizeLine) :
    Inv X pins σ (upd H s.heap.objs.size (.lst ys)) { s with heap := s.heap.push { cls := .type "list", data := .seq its.toArray }, toks := t' } :=
  I.laid (fun _ _ q => Heap.get?_push_of_some _ q) (Nat.le_refl _) ⟨hz, its, 0, hv, Heap.get?_push_size _ rfl⟩
theorem Inv.fresh (I : Inv X pins σ H s) : H s.heap.objs.size = none := I.hok.fresh (Nat.le_refl _)
theorem Inv.lstM (I : Inv X pins σ H s) (hH : H l = some (.lst xs)) : xs.length ≤ sizeLine ∧ ∃ (its : List Value) (n : Nat), Vals xs its ∧ xs.length = its.length ∧ s.heap.get? l = some { cls := .type "list", data := .seq its.toArray n } := by
  obtain ⟨z, its, n, r, e⟩ := I.hok l _ hH
  exact ⟨z, its, n, r, r.length, e⟩

theorem notLongL {n : Nat} (h : n ≤ sizeLine) : Builtin.List.listTooLong n = false := by
  unfold Builtin.List.listTooLong
  exact decide_eq_false (by omega)
end

section
variable {X : Cx}

/-! ### methods -/
def rAppend : V → List V → Hp → VK → Prop := fun x vs H Q => ∃ l xs y, x = .ref l ∧ vs = [y] ∧ H l = some (.lst xs) ∧ xs.length < sizeLine ∧ Q .non (upd H l (.lst (xs ++ [y])))
theorem mt_append : MtM X "list.append" rAppend := by
  intro pins s σ H x vs v us Q I rx rv h
  obtain ⟨l, xs, y, rfl, rfl, hH, hz, q⟩ := h
  cases rx
  obtain ⟨u, rfl, ru⟩ := rv.one
  obtain ⟨z, its, n, r, hl, e⟩ := I.lstM hH
  refine call_meets F.slot_list_append ⟨_, e, rfl⟩ F.entry_list_append (F.args_list_append_2 _ _) (PySem.list_append l its.toArray n u (by rw [List.size_toArray]; omega)) ⟨e, ?_⟩
  refine ⟨.non, _, I.lset (its' := its ++ [u]) hH e (by simp) (r.append (.cons ru .nil)) ?_, rfl, q⟩
  rw [List.length_append, List.length_singleton]
  omega

def rExtend : V → List V → Hp → VK → Prop := fun x vs H Q => ∃ l b xs zs, x = .ref l ∧ vs = [.ref b] ∧ H l = some (.lst xs) ∧ H b = some (.lst zs) ∧ xs.length + zs.length ≤ sizeLine ∧ Q .non (upd H l (.lst (xs ++ zs)))
theorem mt_extend : MtM X "list.extend" rExtend := by
  intro pins s σ H x vs v us Q I rx rv h
  obtain ⟨l, b, xs, zs, rfl, rfl, hH, hB, hz, q⟩ := h
  cases rx
  obtain ⟨u, rfl, ru⟩ := rv.one
  cases ru
  obtain ⟨z, its, n, r, hl, e⟩ := I.lstM hH
  obtain ⟨z2, its2, n2, r2, hl2, e2⟩ := I.lstM hB
  have hsz : its.toArray.size + its2.toArray.size ≤ sizeLine := by rw [List.size_toArray, List.size_toArray]; omega
  have hlong : ¬ (!its.toArray.isEmpty && Builtin.List.listTooLong (its.toArray.size + its2.toArray.size)) = true := by
    rw [notLongL hsz, Bool.and_false]
    exact Bool.false_ne_true
  refine call_meets F.slot_list_extend ⟨_, e, rfl⟩ F.entry_list_extend (F.args_list_extend_2 _ _)
    (AutoSeq1.list_extend_list_list_0 l its.toArray n b its2.toArray n2 hlong (by rw [List.size_toArray]; omega) (by omega)) ⟨e, e2, ?_⟩
  refine ⟨.non, _, I.lset (its' := its ++ its2) hH e (by simp) (r.append r2) ?_, rfl, q⟩
  rw [List.length_append]
  omega

/-! ### list + list, list += list, list * int -/
def rCat : R2 := fun x y H Q => ∃ l b xs zs, x = .ref l ∧ y = .ref b ∧ H l = some (.lst xs) ∧ H b = some (.lst zs) ∧ xs.length + zs.length ≤ sizeLine ∧ ∀ p, H p = none → Q (.ref p) (upd H p (.lst (xs ++ zs)))
theorem op_cat : OpR X (binaryOp .Add) rCat := by
  intro pins s σ H x y v u Q I rx ry h
  obtain ⟨l, b, xs, zs, rfl, rfl, hH, hB, hz, q⟩ := h
  cases rx
  cases ry
  obtain ⟨z, its, n, r, hl, e⟩ := I.lstM hH
  obtain ⟨z2, its2, n2, r2, hl2, e2⟩ := I.lstM hB
  refine PySem.P.add_list e e2 ?_ (by rw [List.size_toArray, List.size_toArray]; omega)
  have ea : its.toArray ++ its2.toArray = (its ++ its2).toArray := by simp
  rw [ea]
  exact ⟨.ref _, _, I.lnew (t' := s.toks) (r.append r2) (by rw [List.length_append]; omega), rfl, q _ I.fresh⟩
/-- a list times an int (a negative one is nothing) -/
def rRep : R2 := fun x y H Q => ∃ l k xs, x = .ref l ∧ y = .int k ∧ H l = some (.lst xs) ∧ -(2 ^ 63) ≤ k ∧ k < 2 ^ 63 ∧ xs.length * k.toNat ≤ sizeLine ∧
  ∀ p, H p = none → Q (.ref p) (upd H p (.lst (List.replicate k.toNat xs).flatten))
theorem len_rep {α : Type} (xs : List α) (k : Nat) : (List.replicate k xs).flatten.length = k * xs.length := by
  induction k with
  | zero => simp
  | succ k ih => rw [List.replicate_succ, List.flatten_cons, List.length_append, ih, Nat.succ_mul, Nat.add_comm]
theorem op_rep : OpR X (binaryOp .Mult) rRep := by
  intro pins s σ H x y v u Q I rx ry h
  obtain ⟨l, k, xs, rfl, rfl, hH, h1, h2, hz, q⟩ := h
  cases rx
  obtain ⟨t, rfl⟩ := ry
  obtain ⟨z, its, n, r, hl, e⟩ := I.lstM hH
  have hlen : its.toArray.size * k.toNat ≤ sizeLine := by rw [List.size_toArray, ← hl]; exact hz
  have hcap : ¬ its.toArray.size * k.toNat > (2 ^ 63 - 1) / 8 := by
    have : (sizeLine : Nat) ≤ (2 ^ 63 - 1) / 8 := by decide
    omega
  have hfit : ¬ (!Builtin.List.listFitsIndex k) = true := by
    rw [fitsIndex_both h1 h2]
    exact Bool.false_ne_true
  have hlong : ¬ Builtin.List.listTooLong (its.toArray.size * k.toNat) = true := by
    rw [notLongL hlen]
    exact Bool.false_ne_true
  have hnew : List.foldl (fun x1 x2 => x1 ++ x2) #[] (List.replicate (if its.toArray.isEmpty = true then 0 else k.toNat) its.toArray) = (List.replicate k.toNat its).flatten.toArray := by
    have f0 : ∀ m : Nat, List.foldl (fun x1 x2 => x1 ++ x2) #[] (List.replicate m its.toArray) = (List.replicate m its).flatten.toArray := fun m => by
      have := foldl_rep its m []
      rw [List.nil_append] at this
      exact this
    rw [f0]
    cases its with
    | nil => simp
    | cons a r' => rw [if_neg (by simp)]
  refine wpAny_binaryOp_repeat_ref (T := "list") (U := "int") (by decide) ⟨_, e, rfl⟩ (fun s' => typeIs_int s' k t) noFill_list_mul F.fills_int_mul F.slot_int_rmul repeat_list F.slot_int_index.lookup
    (call_meets F.slot_int_rmul (typeIs_int s k t) F.entry_int_rmul (F.args_int_rmul_2 _ _) (int___rmul___int_list k t l its.toArray n)
      ⟨e, rfl, ⟨_, e, rfl⟩, call_meets F.slot_list_mul ⟨_, e, rfl⟩ F.entry_list_mul (F.args_list_mul_2 _ _) (AutoListH.list___mul___list_int_3 l its.toArray n k t hfit hcap hlong) ⟨e, ?_⟩⟩)
  rw [hnew]
  exact ⟨.ref _, _, I.lnew (t' := s.toks) (r.rep k.toNat) (by rw [len_rep, Nat.mul_comm]; exact hz), rfl, q _ I.fresh⟩

/-! ### del xs[i] -/
end

/-! ### xs[a:b] = ys -/
section
variable {prog : Program} {w : World} {A : Around} {E : Value → Shared → Prop} {s : Shared}
end

section
variable {X : Cx}
end
end L2

namespace Att
open PySem PySem.W PySem.Calls PyProof.Rows

/-! ### the script -/
theorem ints_of_wellAll {P : Params} {h : Heap} : ∀ (ns : List Int) (vs : List Value), WellAll P h vs (ns.map WData.int) → IntsAre vs ns := by
  intro ns
  induction ns with
  | nil =>
    intro vs w
    rw [List.map_nil] at w
    cases w
    exact .nil
  | cons n ns ih =>
    intro vs w
    rw [List.map_cons] at w
    cases w with
    | cons a b =>
      cases a
      exact .cons _ _ (ih _ b)

theorem script_of {l : OpenLaw} {n : Nat} (hn : l.most = some n) {P : Params} {h : Heap} {args : List WData} {vals : List Value}
    (hpre : l.row.toRowW.claim.pre args = true) (hwl : WellAll P h vals args) :
    ∃ a vs ns, vals = [Value.ref a] ∧ args = [WData.list (ns.map WData.int)] ∧ h.get? a = some { cls := .type "list", data := .seq vs.toArray } ∧ IntsAre vs ns ∧ ns.length ≤ n := by
  have hsh : WShape.hasAll [] args [.list .int] = true := (pre_splitW hpre).1
  have hc : l.pre.holds [] { args := args } = true := (pre_splitW hpre).2
  obtain ⟨d, r, rfl, h1, h2⟩ := hasAllW_cons hsh
  obtain rfl := hasAllW_nil h2
  obtain ⟨xs, rfl, h3⟩ := hasW_list h1
  obtain ⟨ns, rfl⟩ := items_int h3
  have hlen : ns.length ≤ n := by
    unfold OpenLaw.pre at hc
    have h4 : (WTm.not (.lt (.lit (.int (n : Int))) (.len (.arg 0)))).holds [] { args := [.list (ns.map .int)] } = true := by
      have h4 := (holds_andW hc).1
      rw [hn] at h4
      exact h4
    have h5 := condW_of h4 (w_not (w_lt w_lit (w_len_list (w_arg rfl))))
    rw [List.length_map] at h5
    refine Nat.le_of_not_lt fun q => ?_
    have q' : (n : Int) < ((ns.length : Nat) : Int) := by omega
    first
      | (rw [decide_eq_true q'] at h5; exact absurd h5 (by decide))
      | (simp at h5; omega)
  cases hwl with
  | cons w1 w2 =>
    cases w2
    cases w1 with
    | list ho hall => exact ⟨_, _, ns, rfl, rfl, ho, ints_of_wellAll ns _ hall, hlen⟩

theorem post_true (l : OpenLaw) (args : List WData) : l.row.toRowW.claim.post args (.bool true) args = true :=
  postW_of (r := l.row.toRowW) (X := (true == true))
    (show WShape.has [] (.bool true) .bool = true by first | rfl | decide | simp [WShape.has, WShape.arms, WShape.armsAll])
    (show (WTm.eq .res (.lit (.bool true))).value [] { args := args, res := some (.bool true), after := args } = some (.bool (true == true)) from w_eq_bool (w_res rfl) w_lit) rfl

/-! ### the attachment: holds_open's last premise (the goal 'hc' behind k_head) from a wpAny of the law's body -/
/-- the same from a codeAny of the CALL (for a layer whose function contracts speak of calls) -/
theorem attach_call {l : OpenLaw} {n : Nat} {q : Program} {loose : List Str} {XP : (Str → Option Value) → Heap → Prop} {YP : World → Heap → Prop} {d : DefRec}
    (hn : l.most = some n) (hdf : d.params.defaults = [])
    (call : ∀ (w : World) (s₀ s₁ : Shared) (mg mb : Str → Option Value) (fa : Addr) (o : Obj) (pm cd doc : Value) (a : Addr) (vs : List Value) (ns : List Int),
      Ground q loose [] XP w s₀ mg mb s₁.heap → YP w s₁.heap →
      s₁.heap.get? fa = some o → o.data = .func (docDef d.name d.params d.body d.scope pm cd doc) → s₁.heap.CodeRec cd d.name → mg d.name = some (.ref fa) →
      s₁.heap.get? a = some { cls := .type "list", data := .seq vs.toArray } → IntsAre vs ns → ns.length ≤ n → s₁.gens = #[] →
      codeAny (model l.prog w) callerA (.call (.ref fa) ⟨[.ref a], []⟩) (fun r s' => r = .ok (.ret (.bool true)) ∧ OldK s₁.heap s'.heap ∧ s'.os = s₁.os ∧ AllBare s'.gens) s₁) :
    WalkO q loose XP YP l.row.toRowW d [] (fun f vs => PySem.call f vs) := by
  intro w s₀ s₁ mg mb G Y fa o pm cd doc dV kV ho hd hcd hD hmg hg args vals as hpre hlay hrd hwl hlo
  obtain rfl : dV = .none := Dflts.none hD hdf
  obtain rfl : kV = .none := Dflts.noKw hD
  obtain ⟨a, vs, ns, rfl, rfl, hobj, hints, hlen⟩ := script_of hn hpre hwl
  refine enter_call (codeAny_mono (call w s₀ s₁ mg mb fa o pm cd doc a vs ns G Y ho (fd_plain hd) hcd hmg hobj hints hlen hg) fun r s' hq => ?_)
  obtain ⟨rfl, h2, h3, h4⟩ := hq
  exact ⟨.inl ⟨.bool true, .bool true, [], rfl, fun _ => rfl, .bool true, post_true l _, fun _ => ⟨List.Pairwise.nil, fun _ hm => (nomatch hm)⟩⟩, h2, h3, h4⟩

/-! ### rules over ANY heap (no ledger) from facts about the written part K: the library's own take a ledger (News) for what they write -/
section
variable {prog : Program} {w : World} {A : Around} {E : Value → Shared → Prop} {s : Shared} {K : Frag}

/-! the whole heap as the ledger: makes every rule that writes through a ledger a rule over any heap -/
def ledger (h : Heap) (L d : Addr) : List (Addr × Obj) := (List.range h.objs.size).filterMap fun a => if a = L ∨ a = d then none else (h.get? a).map fun o => (a, o)
end
end Att

namespace L2
open PySem PySem.Spec PyProof.Rows

theorem vals_ints : ∀ {vs : List Value} {ns : List Int}, IntsAre vs ns → Vals (ns.map V.int) vs
  | _, _, .nil => .nil
  | _, _, .cons n t h => .cons ⟨t, rfl⟩ (vals_ints h)

/-- nothing is tracked but the script, known to the object (or it is an object of the module) -/
def Only (H : Hp) : Prop := ∀ b, H b = none ∨ ∃ o xs, H b = some (.frz o (.lst xs))

/-- THE HEAD: the law's promise, at the heap behind the top. F, the promise of the law's def, may use that base is part of the heap (so K.In base, base.Ns mainGlobals mg stand in Mod) -/
theorem law_call {P : Program} {w : World} {K : PySem.W.Frag} {mg mb : Str → Option Value} {CX : CXT} {k : Nat} {fa a : Addr} {fd : FuncData} {x : Str} {sp : Sp} {s₁ : Shared} {vs : List Value} {ns : List Int}
    (KX : K.In s₁.heap) (hns : s₁.heap.Ns mainGlobals mg) (hb : s₁.heap.Ns builtinsNs mb) (hbb : ∀ x : Str, x ≠ "__name__" → mb x = bootBuiltins x) (hlim : s₁.heap.NoLimit) (hg : s₁.gens = #[])
    (ha : s₁.heap.get? a = some { cls := .type "list", data := .seq vs.toArray }) (hi : IntsAre vs ns) (hl : ns.length ≤ sizeLine) (hr : Room k callerA)
    (F : ∀ base : Heap, K.In base → base.Ns mainGlobals mg → FnOk P w K mg base CX k fa fd [x] sp) (hbind : ∀ (s : Shared) (u : Value), BindsTo s fd ⟨[u], []⟩ [(x, u)])
    (hsp : ∀ H : Hp, Only H → SqL K H a (ns.map V.int) → sp [.ref a] H (fun v _ => v = .bl true) fun _ _ _ => False)
    (hCX : ∀ H e s', CX [] H s₁ (fun _ _ _ => False) e s' → False) :
    codeAny (model P w) callerA (.call (.ref fa) ⟨[.ref a], []⟩) (fun r s' => r = .ok (.ret (.bool true)) ∧ OldK s₁.heap s'.heap ∧ s'.os = s₁.os ∧ AllBare s'.gens) s₁ := by
  have rv := vals_ints hi
  have lenV := hi.length
  -- from an abstract heap in which nothing but the script may be tracked
  have core : ∀ H : Hp, Only H → SqL K H a (ns.map V.int) → HOk P w H s₁.heap → (∀ b, H b ≠ none → b = a) → (H a ≠ none → K.lookup a = none) →
      codeAny (model P w) callerA (.call (.ref fa) ⟨[.ref a], []⟩) (fun r s' => r = .ok (.ret (.bool true)) ∧ OldK s₁.heap s'.heap ∧ s'.os = s₁.os ∧ AllBare s'.gens) s₁ := by
    intro H hO hS hok hA hK
    have base_of : ∀ {b : Addr} {o : Obj}, s₁.heap.get? b = some o → H b = none → (hidT s₁.heap H).get? b = some o := fun e n => hidT_get e n
    have noA : ∀ {b : Addr} {o : Obj} {es : Array DictEntry} {ep : Nat}, s₁.heap.get? b = some o → o.data = .dict es ep → H b = none := fun {b o es ep} e d => by
      cases q : H b with
      | none => rfl
      | some u =>
        have e' : b = a := hA b (by rw [q]; simp)
        subst e'
        rw [ha] at e; cases e
        have d' : Data.seq vs.toArray _ = Data.dict es ep := d
        cases d'
    have nsK : ∀ {b : Addr} {m : Str → Option Value}, s₁.heap.Ns b m → (hidT s₁.heap H).Ns b m := fun {b m} ⟨o, es, ep, e, d, r⟩ => ⟨o, es, ep, base_of e (noA e d), d, r⟩
    have hKb : K.In (hidT s₁.heap H) := fun b o e => base_of (KX b o e) (by
      cases q : H b with
      | none => rfl
      | some u =>
        have e' : b = a := hA b (by rw [q]; simp)
        subst e'
        rw [hK (by rw [q]; simp)] at e; cases e)
    have hM : Mod K mg (hidT s₁.heap H) := ⟨hKb, nsK hns, ⟨mb, nsK hb, hbb⟩, let ⟨mc, h1, h2⟩ := hlim; ⟨mc, nsK h1, h2⟩⟩
    have e0 : Env0 P w K mg (hidT s₁.heap H) callerA [] s₁ H := ⟨rfl, hM, fun b o e => of_hidT e, Nat.le_of_eq (hidT_size _ _), trivial, fun b hb => absurd (show b ∈ ([] : List Addr) from hb) (by simp), hok, .of_eq hg⟩
    refine codeAny_mono ((F _ hKb (nsK hns)).run callerA [] s₁ H ⟨[.ref a], []⟩ [.ref a] [.ref a] _ _ hr e0 (hbind s₁ (.ref a)) (.cons rfl .nil) (hsp H hO hS)) fun r s' h => ?_
    cases r with
    | error e => exact (hCX H e s' h).elim
    | ok fl =>
      cases fl with
      | next => exact False.elim h
      | brk => exact False.elim h
      | cont => exact False.elim h
      | ret u =>
        obtain ⟨v, H', os, bare, un, hok', r', q⟩ := h
        have q' : v = .bl true := q
        subst q'
        obtain rfl : u = Value.bool true := r'
        refine ⟨rfl, OldK.of_keep fun b o e => ?_, os, bare⟩
        cases q : H b with
        | none => exact un.keep b o e q (by intro z; exact absurd (show b ∈ ([] : List Addr) from z) (by simp)) (by simp)
        | some u =>
          rcases hO b with z | ⟨ob, xs, z⟩
          · rw [q] at z; cases z
          · have z2 := un.frzs b ob _ z
            obtain ⟨e1, _⟩ := hok b _ z
            obtain ⟨e2, _⟩ := hok' b _ z2
            rw [e] at e1; cases e1
            exact e2
  cases hk : K.lookup a with
  | some o =>
    -- the script is one of the module's own objects
    have e := KX a o hk
    rw [ha] at e
    cases e
    refine core (fun _ => none) (fun _ => .inl rfl) (.inr ⟨_, vs.toArray, _, hk, rfl, rfl, rfl, by rw [List.size_toArray, lenV]; exact hl, by simpa using rv⟩) (fun b u z => by have z' : (none : Option HO) = some u := z; cases z') (fun b z => absurd rfl z) fun z => absurd rfl z
  | none =>
    refine core (fun b => if b = a then some (.frz { cls := .type "list", data := .seq vs.toArray } (.lst (ns.map V.int))) else none) (fun b => ?_) (.inl (.inr ⟨{ cls := .type "list", data := .seq vs.toArray }, if_pos rfl⟩)) (fun b u z => ?_) (fun b z => ?_) fun _ => hk
    · by_cases hb : b = a
      · exact .inr ⟨_, _, if_pos hb⟩
      · exact .inl (if_neg hb)
    · by_cases hb : b = a
      · have z' := (if_pos hb).symm.trans z
        cases z'
        subst hb
        exact ⟨ha, by rw [List.length_map]; exact hl, vs, _, rv, ha⟩
      · have z' := (if_neg hb).symm.trans z
        cases z'
    · by_cases hb : b = a
      · exact hb
      · exact absurd (if_neg hb) z
end L2

namespace L2
open PySem PySem.Spec PyProof.Rows

/-- the goal that k_head leaves (case hc), from the law's promise. F gives the function object fd (K's own) once, then the promise over every base -/
theorem walk_of {l : PySem.W.OpenLaw} {n k : Nat} {q : Program} {loose : List Str} {XP : (Str → Option Value) → Heap → Prop} {YP : World → Heap → Prop} {d : DefRec} {K : Params → PySem.W.Frag} {CX : World → CXT} {sp : World → Sp} {x : Str}
    (hn : l.most = some n) (hn2 : n ≤ sizeLine) (hdf : d.params.defaults = []) (hr : Room k callerA)
    (hY : ∀ (w : World) (h : Heap), YP w h → (K w.params).In h)
    (F : ∀ (w : World) (mg : Str → Option Value) (fa : Addr) (h : Heap), (K w.params).In h → h.Ns mainGlobals mg → mg d.name = some (.ref fa) →
      ∃ fd : FuncData, (∀ (s : Shared) (u : Value), BindsTo s fd ⟨[u], []⟩ [(x, u)]) ∧
        ∀ base : Heap, (K w.params).In base → base.Ns mainGlobals mg → FnOk l.prog w (K w.params) mg base (CX w) k fa fd [x] (sp w))
    (hsp : ∀ (w : World) (H : Hp) (a : Addr) (ns : List Int), ns.length ≤ n → Only H → SqL (K w.params) H a (ns.map V.int) → sp w [.ref a] H (fun v _ => v = .bl true) fun _ _ _ => False)
    (hCX : ∀ (w : World) (H : Hp) (s : Shared) (e : Value) (s' : Shared), CX w [] H s (fun _ _ _ => False) e s' → False) :
    PySem.W.WalkO q loose XP YP l.row.toRowW d [] (fun f vs => PySem.call f vs) := by
  refine Att.attach_call hn hdf fun w s₀ s₁ mg mb fa o pm cd doc a vs ns G Y ho hd hcd hmg hobj hints hlen hg => ?_
  have KX := hY w _ Y
  obtain ⟨fd, hb, hF⟩ := F w mg fa _ KX G.T.g hmg
  exact law_call KX G.T.g G.T.b G.T.builtins G.T.nolimit hg hobj hints (Nat.le_trans hlen hn2) hr hF hb (fun H hO hS => hsp w H a ns hlen hO hS) fun H e s' => hCX w H s₁ e s'
end L2

/-! SHORT WORDS over the layer: a def of the text, its body, what a loop and a test want. -/
namespace L2
open PySem PySem.Spec PyProof.Rows

/-! ### the text by places -/
def defArgs (s : Stmt) : Arguments := match s with
  | .FunctionDef _ a _ _ _ _ _ _ _ _ => a
  | _ => { posonlyargs := [], args := [], vararg := none, kwonlyargs := [], kw_defaults := [], kwarg := none, defaults := [] }
def defBody (s : Stmt) : List Stmt := match s with
  | .FunctionDef _ _ b _ _ _ _ _ _ _ => b
  | _ => []
def defScope (s : Stmt) : Scope := match s with
  | .FunctionDef _ _ _ _ _ _ sc _ _ _ => sc
  | _ => { kind := .function, names := [], isGenerator := false, isCoroutine := false }

/-! ### no exception leaves a def -/
abbrev CX0 : CXT := fun _ _ _ _ _ _ => False
abbrev E0 : XK := fun _ _ _ => False
theorem pass0 {X : Cx} : Passes CX0 X E0 := fun _ _ _ _ _ _ _ h => h.elim

/-! ### a def (or method) of the text as it stands behind the top -/
structure Fun (K : PySem.W.Frag) (x qual : Str) (st : Stmt) (f : Addr) (fd : FuncData) : Prop where
  ex : ∃ (oc : Value) (od : Option Addr) (kV doc pm : Value) (an : Option Addr) (cdv ct : Value) (osl : Array (Option Value)),
    fd = PySem.W.fnOf x qual (defArgs st) (defBody st) (defScope st) .none kV doc pm an cdv ct ∧ K.lookup f = some ⟨oc, od, .func fd, osl⟩ ∧ PySem.W.codeIn K cdv qual = true
  kp : PySem.W.keepIn K (.ref f) = true
section
variable {P : Program} {w : World} {K : PySem.W.Frag} {mg : Str → Option Value} {base : Heap}
/-- THE RULE for a def: its body as a term of rules, and the reading of that term -/
theorem Fun.ok {x qual : Str} {st : Stmt} {f : Addr} {fd : FuncData} {N ps : List Str} {k : Nat} {sp : Sp} (F : Fun K x qual st f fd) (S : FnScope N ps (defScope st)) (len : ∀ vs H Q E, sp vs H Q E → vs.length = ps.length)
    (hbody : ∀ (cdv : Value) (A : Around) (outer : List Env) (s : Shared) (H : Hp) (vs : List V) (Q : VK) (E : XK), Room k (A.deeper (envOfC qual (defScope st) s.heap.objs.size f cdv)) → sp vs H Q E →
      ∃ t, PSs (cxOf CX0 P w K mg base N qual (defScope st) f cdv A outer s H E).nox (defBody st) t ∧ t { nx := fun _ H' => Q .non H', rt := Q } (start N vs) H) : FnOk P w K mg base CX0 (k + 1) f fd ps sp := by
  obtain ⟨oc, od, kV, doc, pm, an, cdv, ct, osl, rfl, lk, hcd⟩ := F.ex
  refine fn_of lk hcd S len fun A outer s H vs Q E hr hsp => ?_
  obtain ⟨t, h, q⟩ := hbody cdv A outer s H vs Q E hr hsp
  exact ⟨t, h.nox, q⟩
/-- how its arguments bind (no defaults): h is «fun _ _ _ _ _ _ us hl => match us, hl with | [_, _], _ => rfl», one _ a parameter -/
theorem Fun.binds {x qual : Str} {st : Stmt} {f : Addr} {fd : FuncData} {ps : List Str} (F : Fun K x qual st f fd)
    (h : ∀ (kV doc pm : Value) (an : Option Addr) (cdv ct : Value) (us : List Value), us.length = ps.length → bindArgs (PySem.W.fnOf x qual (defArgs st) (defBody st) (defScope st) .none kV doc pm an cdv ct) ⟨us, []⟩ = pure (ps.zip us)) : Binds K fd ps [] := by
  obtain ⟨oc, od, kV, doc, pm, an, cdv, ct, osl, rfl, lk, hcd⟩ := F.ex
  exact .all (h kV doc pm an cdv ct)
theorem fun_mk {x qual : Str} {st : Stmt} {f : Addr} {oc : Value} {od an : Option Addr} {osl : Array (Option Value)} {kV doc pm cdv ct : Value} (l : K.lookup f = some ⟨oc, od, .func (PySem.W.fnOf x qual (defArgs st) (defBody st) (defScope st) .none kV doc pm an cdv ct), osl⟩)
    (c : PySem.W.codeIn K cdv qual = true) (k : PySem.W.keepIn K (.ref f) = true) : Fun K x qual st f (PySem.W.fnOf x qual (defArgs st) (defBody st) (defScope st) .none kV doc pm an cdv ct) := ⟨⟨oc, od, kV, doc, pm, an, cdv, ct, osl, rfl, l, c⟩, k⟩
end
/-! ### expressions in short: the name that stands in the i-th slot -/
section
variable {X : Cx}
end

/-! ### tests -/
theorem iteF {A B : Prop} (h : B) : if false = true then A else B := by
  rw [if_neg Bool.false_ne_true]
  exact h
theorem iteT {A B : Prop} (h : A) : if true = true then A else B := by
  rw [if_pos rfl]
  exact h
/-! ### heaps -/
/-- all that was tracked is as it was -/
def Same (H H' : Hp) : Prop := ∀ b o, H b = some o → H' b = some o
theorem Same.refl (H : Hp) : Same H H := fun _ _ h => h
theorem Same.trans {H H1 H2 : Hp} (a : Same H H1) (b : Same H1 H2) : Same H H2 := fun c o h => b c o (a c o h)
theorem Same.free {H H' : Hp} (e : Same H H') {l : Addr} (h : H' l = Option.none) : H l = Option.none := by
  cases q : H l with
  | none => rfl
  | some o =>
    rw [e l o q] at h
    cases h
theorem Same.seq {K : PySem.W.Frag} {H H' : Hp} {a : Addr} {xs : List V} (e : Same H H') (h : SqL K H a xs) : SqL K H' a xs := by
  rcases h with (h | ⟨o, h⟩) | h
  · exact .inl (.inl (e _ _ h))
  · exact .inl (.inr ⟨o, e _ _ h⟩)
  · exact .inr h

end L2

set_option Elab.async false
set_option linter.all false
set_option maxRecDepth 100000
set_option maxHeartbeats 1000000
namespace L2
open PySem PySem.Spec PyProof.Rows

/-! ### branches that do not unfold -/
@[irreducible] def br (c : Bool) (A B : Prop) : Prop := if c = true then A else B
section
variable {A B p : Prop} {c : Bool}
theorem br_iff : br c A B = (if c = true then A else B) := by unfold br; rfl
theorem br_T (h : A) : br true A B := by unfold br; exact iteT h
theorem br_F (h : B) : br false A B := by unfold br; exact iteF h
theorem br_any (h1 : c = true → A) (h2 : c = false → B) : br c A B := by
  cases c with
  | true => exact br_T (h1 rfl)
  | false => exact br_F (h2 rfl)
theorem br_dec [Decidable p] (h1 : p → A) (h2 : ¬ p → B) : br (decide p) A B := br_any (fun h => h1 (of_decide_eq_true h)) fun h => h2 (of_decide_eq_false h)
theorem br_dT [Decidable p] (hp : p) (h : A) : br (decide p) A B := br_dec (fun _ => h) fun n => absurd hp n
theorem br_dF [Decidable p] (hp : ¬ p) (h : B) : br (decide p) A B := br_dec (fun n => absurd n hp) fun _ => h
theorem br_not (h : br c B A) : br (!c) A B := by
  cases c with
  | true => unfold br at h ⊢; simpa using h
  | false => unfold br at h ⊢; simpa using h
end

/-! ### heaps -/
/-- all but a is as it was -/
def Chg (a : Addr) (H H' : Hp) : Prop := ∀ b o, b ≠ a → H b = some o → H' b = some o
theorem Chg.upd {H : Hp} {a : Addr} {o : HO} : Chg a H (upd H a o) := fun b u hb e => by rw [upd_ne hb]; exact e
theorem Same.upd {H : Hp} {a : Addr} {o : HO} (h : H a = none) : Same H (L2.upd H a o) := fun b u e => by rw [upd_ne (ne_of_none e h)]; exact e
theorem Same.chg {H0 H H' : Hp} {a : Addr} (s : Same H0 H) (n : H0 a = none) (c : Chg a H H') : Same H0 H' := fun b o e => c b o (ne_of_none e n) (s b o e)
theorem Chg.refl (a : Addr) (H : Hp) : Chg a H H := fun _ _ _ e => e
theorem Chg.trans {H H1 H2 : Hp} {a : Addr} (x : Chg a H H1) (y : Chg a H1 H2) : Chg a H H2 := fun b o h e => y b o h (x b o h e)
theorem Chg.same {H H1 H2 : Hp} {a : Addr} (x : Chg a H H1) (y : Same H1 H2) : Chg a H H2 := fun b o h e => y b o (x b o h e)
theorem Same.toChg {H H1 : Hp} {a : Addr} (x : Same H H1) : Chg a H H1 := fun b o _ e => x b o e
theorem Same.at {H H' : Hp} {b : Addr} {o : HO} (s : Same H H') (e : H b = some o) : H' b = some o := s b o e
theorem Chg.at {H H' : Hp} {a b : Addr} {o : HO} (s : Chg a H H') (e : H b = some o) (n : b ≠ a) : H' b = some o := s b o n e
/-! ### names -/
def qV (i : Nat) : TE := fun σ H Q => match σ[i]? with
  | some (some v) => Q v H
  | _ => False
section
variable {X : Cx}
theorem pq (i : Nat) {x : Str} {pos : Pos} (hN : X.N[i]? = some x := by rfl) (hv : Vis X.env.scope x := by first | exact Or.inl rfl | exact Or.inr (Or.inl rfl) | exact Or.inr (Or.inr rfl)) (hd : (x == ("__debug__" : Str)) = false := by decide)
    (hcd : (x == ("__classdict__" : Str)) = false := by decide) : PE X (.Name x pos) (qV i) := fun pins s σ H Q I h => by
  refine pe_var hN hv hd hcd pins s σ H Q I ?_
  unfold qV at h
  split at h
  · rename_i v e
    exact ⟨v, e, h⟩
  · exact h.elim

/-! ### arithmetic -/
@[irreducible] def rMulI (i j : Int) (H : Hp) (Q : VK) : Prop := IntMulOk i j ∧ Q (.int (i * j)) H
@[irreducible] def rDivI (i j : Int) (H : Hp) (Q : VK) : Prop := (j ≠ 0 ∧ j.natAbs.log2 < 9000) ∧ Q (.int (i.fdiv j)) H
@[irreducible] def rModI (i j : Int) (H : Hp) (Q : VK) : Prop := j ≠ 0 ∧ Q (.int (i.fmod j)) H
@[irreducible] def rPowI (i j : Int) (H : Hp) (Q : VK) : Prop := CPow i j ∧ Q (.int (i ^ j.toNat)) H
@[irreducible] def rCatL (a b : Addr) (H : Hp) (Q : VK) : Prop := ∃ xs zs, H a = some (.lst xs) ∧ H b = some (.lst zs) ∧ xs.length + zs.length ≤ sizeLine ∧
  ∀ p H', H p = none → Same H H' → H' p = some (.lst (xs ++ zs)) → Q (.ref p) H'
@[irreducible] def rRepL (a : Addr) (k : Int) (H : Hp) (Q : VK) : Prop := ∃ xs, H a = some (.lst xs) ∧ -(2 ^ 63) ≤ k ∧ k < 2 ^ 63 ∧ xs.length * k.toNat ≤ sizeLine ∧
  ∀ p H', H p = none → Same H H' → H' p = some (.lst (List.replicate k.toNat xs).flatten) → Q (.ref p) H'
def rAddM : R2 := fun x y H Q => match x, y with
  | .int i, .int j => Q (.int (i + j)) H
  | .ref a, .ref b => rCatL a b H Q
  | .str a, .str b => a.length + b.length ≤ sizeLine ∧ Q (.str (a ++ b)) H
  | _, _ => False
def rSubM : R2 := fun x y H Q => match x, y with
  | .int i, .int j => Q (.int (i - j)) H
  | _, _ => False
def rMulM : R2 := fun x y H Q => match x, y with
  | .int i, .int j => rMulI i j H Q
  | .ref a, .int k => rRepL a k H Q
  | _, _ => False
def rDivM : R2 := fun x y H Q => match x, y with
  | .int i, .int j => rDivI i j H Q
  | _, _ => False
def rModM : R2 := fun x y H Q => match x, y with
  | .int i, .int j => rModI i j H Q
  | _, _ => False
def rPowM : R2 := fun x y H Q => match x, y with
  | .int i, .int j => rPowI i j H Q
  | _, _ => False
theorem oAdd : OpR X (binaryOp .Add) rAddM := by
  intro pins s σ H x y v u Q I rx ry h
  unfold rAddM at h
  split at h
  · exact op_add pins s σ H _ _ v u Q I rx ry ⟨_, _, rfl, rfl, h⟩
  · unfold rCatL at h
    obtain ⟨xs, zs, h1, h2, h3, h4⟩ := h
    exact op_cat pins s σ H _ _ v u Q I rx ry ⟨_, _, xs, zs, rfl, rfl, h1, h2, h3, fun p hp => h4 p _ hp (Same.upd hp) upd_same⟩
  · exact op_add_str pins s σ H _ _ v u Q I rx ry ⟨_, _, rfl, rfl, h.1, h.2⟩
  · exact h.elim
theorem oSub : OpR X (binaryOp .Sub) rSubM := by
  intro pins s σ H x y v u Q I rx ry h
  unfold rSubM at h
  split at h
  · exact op_sub pins s σ H _ _ v u Q I rx ry ⟨_, _, rfl, rfl, h⟩
  · exact h.elim
theorem oMul : OpR X (binaryOp .Mult) rMulM := by
  intro pins s σ H x y v u Q I rx ry h
  unfold rMulM at h
  split at h
  · unfold rMulI at h
    obtain ⟨t, rfl⟩ := rx
    obtain ⟨t', rfl⟩ := ry
    exact mul_int ⟨.int _, H, I.tok _, ⟨_, rfl⟩, h.2⟩ h.1
  · unfold rRepL at h
    obtain ⟨xs, h1, h2, h3, h4, h5⟩ := h
    exact op_rep pins s σ H _ _ v u Q I rx ry ⟨_, _, xs, rfl, rfl, h1, h2, h3, h4, fun p hp => h5 p _ hp (Same.upd hp) upd_same⟩
  · exact h.elim
theorem oDiv : OpR X (binaryOp .FloorDiv) rDivM := by
  intro pins s σ H x y v u Q I rx ry h
  unfold rDivM at h
  split at h
  · unfold rDivI at h
    obtain ⟨⟨h1, h2⟩, h3⟩ := h
    obtain ⟨t, rfl⟩ := rx
    obtain ⟨t', rfl⟩ := ry
    exact floordiv_int h1 ⟨.int _, H, I.tok _, ⟨_, rfl⟩, h3⟩ (.inl (PyProof.noPylong_of_log2 h2))
  · exact h.elim
theorem oMod : OpR X (binaryOp .Mod) rModM := by
  intro pins s σ H x y v u Q I rx ry h
  unfold rModM at h
  split at h
  · unfold rModI at h
    exact op_modN pins s σ H _ _ v u Q I rx ry ⟨_, _, rfl, rfl, h.1, h.2⟩
  · exact h.elim
theorem oPow : OpR X (binaryOp .Pow) rPowM := by
  intro pins s σ H x y v u Q I rx ry h
  unfold rPowM at h
  split at h
  · unfold rPowI at h
    exact op_pow pins s σ H _ _ v u Q I rx ry ⟨_, _, rfl, rfl, h.1, h.2⟩
  · exact h.elim
def rNegM : V → Hp → VK → Prop := fun x H Q => match x with
  | .int i => Q (.int (-i)) H
  | _ => False
theorem uNeg : UnR X (unaryOp .USub) rNegM := by
  intro pins s σ H x v Q I rx h
  unfold rNegM at h
  split at h
  · exact un_neg pins s σ H _ v Q I rx ⟨_, rfl, h⟩
  · exact h.elim

/-! how they are read -/
section
variable {i j : Int} {H : Hp} {Q : VK}
theorem mul_rd (h : IntMulOk i j) (q : Q (.int (i * j)) H) : rMulI i j H Q := by unfold rMulI; exact ⟨h, q⟩
theorem log2_lt {n k : Nat} (h : n < 2 ^ k) (hk : 0 < k) : n.log2 < k := by
  by_cases h0 : n = 0
  · subst h0; simpa using hk
  · exact (Nat.log2_lt h0).mpr h
theorem big9000 {j : Int} (h1 : -(10 ^ 240) < j) (h2 : j < 10 ^ 240) : j.natAbs < 2 ^ 2000 := by
  have e : (10 : Int) ^ 240 = ((10 ^ 240 : Nat) : Int) := by norm_cast
  have e2 : (10 : Nat) ^ 240 < 2 ^ 2000 := by decide +kernel
  rw [e] at h1 h2
  generalize hN : (10 : Nat) ^ 240 = N at h1 h2 e2
  generalize hM : (2 : Nat) ^ 2000 = M at e2
  omega
theorem div_rd (h1 : 0 < j) (h2 : j < 10 ^ 240) (q : Q (.int (i / j)) H) : rDivI i j H Q := by
  unfold rDivI
  refine ⟨⟨by omega, ?_⟩, ?_⟩
  · have h := log2_lt (big9000 (j := j) (by have : (0 : Int) < 10 ^ 240 := by decide +kernel
                                            generalize (10 : Int) ^ 240 = N at this; omega) h2) (by decide)
    omega
  · rw [Int.fdiv_eq_ediv_of_nonneg _ (by omega)]; exact q
theorem mod_rd (h1 : 0 < j) (q : Q (.int (i % j)) H) : rModI i j H Q := by
  unfold rModI
  refine ⟨by omega, ?_⟩
  rw [Int.fmod_eq_emod_of_nonneg _ (by omega)]; exact q
theorem pow_rd (h : CPow i j) (q : Q (.int (i ^ j.toNat)) H) : rPowI i j H Q := by unfold rPowI; exact ⟨h, q⟩
theorem cat_rd {a b : Addr} {xs zs : List V} (h1 : H a = some (.lst xs)) (h2 : H b = some (.lst zs)) (h3 : xs.length + zs.length ≤ sizeLine)
    (q : ∀ p H', H p = none → Same H H' → H' p = some (.lst (xs ++ zs)) → Q (.ref p) H') : rCatL a b H Q := by unfold rCatL; exact ⟨xs, zs, h1, h2, h3, q⟩
end

/-! ### comparisons -/
def rLtM : R2 := fun x y H Q => match x, y with
  | .int i, .int j => Q (.bl (decide (i < j))) H
  | _, _ => False
def rLeM : R2 := fun x y H Q => match x, y with
  | .int i, .int j => Q (.bl (decide (i ≤ j))) H
  | _, _ => False
def rGtM : R2 := fun x y H Q => match x, y with
  | .int i, .int j => Q (.bl (decide (j < i))) H
  | _, _ => False
def rGeM : R2 := fun x y H Q => match x, y with
  | .int i, .int j => Q (.bl (decide (j ≤ i))) H
  | _, _ => False
theorem oLt : OpR X (compareOp .Lt) rLtM := by
  intro pins s σ H x y v u Q I rx ry h
  unfold rLtM at h
  split at h
  · exact op_lt pins s σ H _ _ v u Q I rx ry ⟨_, _, rfl, rfl, h⟩
  · exact h.elim
theorem oLe : OpR X (compareOp .LtE) rLeM := by
  intro pins s σ H x y v u Q I rx ry h
  unfold rLeM at h
  split at h
  · exact op_le pins s σ H _ _ v u Q I rx ry ⟨_, _, rfl, rfl, h⟩
  · exact h.elim
theorem oGt : OpR X (compareOp .Gt) rGtM := by
  intro pins s σ H x y v u Q I rx ry h
  unfold rGtM at h
  split at h
  · exact op_gt pins s σ H _ _ v u Q I rx ry ⟨_, _, rfl, rfl, h⟩
  · exact h.elim
theorem oGe : OpR X (compareOp .GtE) rGeM := by
  intro pins s σ H x y v u Q I rx ry h
  unfold rGeM at h
  split at h
  · exact op_ge pins s σ H _ _ v u Q I rx ry ⟨_, _, rfl, rfl, h⟩
  · exact h.elim
/-- == of two things, to a depth n -/
inductive EqR (K : PySem.W.Frag) (H : Hp) : Nat → V → V → Bool → Prop where
  | flat {n : Nat} {x y : V} (fx : flatV x = true) (fy : flatV y = true) : EqR K H n x y (eqV x y)
  | tup {n : Nat} {a b : Addr} {xs ys : List V} (e : Nat → Bool) (ha : SqT K H a xs) (hb : SqT K H b ys) (h : ∀ (j : Nat) (x y : V), xs[j]? = some x → ys[j]? = some y → EqR K H n x y (e j)) :
      EqR K H (n + 1) (.ref a) (.ref b) ((List.range (min xs.length ys.length)).all e && xs.length == ys.length)
  | lst {n : Nat} {a b : Addr} {xs ys : List V} (e : Nat → Bool) (ha : SqL K H a xs) (hb : SqL K H b ys) (hl : xs.length = ys.length) (h : ∀ (j : Nat) (x y : V), xs[j]? = some x → ys[j]? = some y → EqR K H n x y (e j)) :
      EqR K H (n + 1) (.ref a) (.ref b) ((List.range xs.length).all e)
  | lstN {n : Nat} {a b : Addr} {xs ys : List V} (ha : SqL K H a xs) (hb : SqL K H b ys) (hl : xs.length ≠ ys.length) : EqR K H (n + 1) (.ref a) (.ref b) false
theorem eqV_self {x : V} (f : flatV x = true) : eqV x x = true := by
  cases x <;> first | rfl | (simp [eqV]; done) | exact absurd (show false = true from f) Bool.false_ne_true
section
variable {pins : List (Addr × Obj)} {σ : St} {H : Hp} {s : Shared}
theorem EqR.self (I : Inv X pins σ H s) {n : Nat} {x y : V} {b : Bool} (h : EqR X.K H n x y b) : x = y → b = true := by
  induction h with
  | flat fx fy => rintro rfl; exact eqV_self fx
  | tup e ha hb h ih =>
    intro q
    cases q
    have q := I.tuple_inj ha hb
    subst q
    rw [Nat.min_self, Bool.and_eq_true]
    refine ⟨List.all_eq_true.mpr fun j hj => ?_, by simp⟩
    have hj := List.mem_range.mp hj
    exact ih j _ _ (List.getElem?_eq_getElem hj) (List.getElem?_eq_getElem hj) rfl
  | lst e ha hb hl h ih =>
    intro q
    cases q
    have q := I.list_inj ha hb
    subst q
    refine List.all_eq_true.mpr fun j hj => ?_
    have hj := List.mem_range.mp hj
    exact ih j _ _ (List.getElem?_eq_getElem hj) (List.getElem?_eq_getElem hj) rfl
  | lstN ha hb hl =>
    intro q
    cases q
    exact absurd (congrArg List.length (I.list_inj ha hb)) hl
theorem in1_units (A : Around) : A.in1.units = A.units + 1 := rfl
mutual
theorem EqR.at (I : Inv X pins σ H s) : ∀ {n : Nat} {x y : V} {b : Bool}, EqR X.K H n x y b → ∀ {u v : Value} {A : Around}, RelV x u → RelV y v → A.units + n < cLine → SeqAt.EqAt A s u v b
  | _, _, _, _, .flat fx fy, u, v, A, rx, ry, _ => eqAt_V rx ry fx fy
  | _, .ref a, .ref b, _, h, u, v, A, rx, ry, hu => by
    cases rx
    cases ry
    by_cases e : a = b
    · subst e
      rw [h.self I rfl]
      exact SeqAt.EqAt.same _
    · exact SeqAt.EqAt.of_refs e (EqR.rc I h hu)
theorem EqR.rc (I : Inv X pins σ H s) : ∀ {n : Nat} {a b : Addr} {c : Bool}, EqR X.K H n (.ref a) (.ref b) c → ∀ {A : Around}, A.units + n < cLine → SeqAt.RcAt A s (.ref a) (.ref b) c
  | _, _, _, _, .flat fx _, _, _ => absurd (show false = true from fx) Bool.false_ne_true
  | _, a, b, _, .tup (xs := xs) (ys := ys) e ha hb h, A, hu => by
    obtain ⟨its, r1, t1, z1⟩ := I.tuple ha
    obtain ⟨its2, r2, t2, z2⟩ := I.tuple hb
    have l1 : its.toArray.size = xs.length := by rw [List.size_toArray]; exact r1.length.symm
    have l2 : its2.toArray.size = ys.length := by rw [List.size_toArray]; exact r2.length.symm
    have q := SeqAt.RcAt.tuples (A := A) (e := e) t1 t2 (by omega) fun j h1 h2 => by
      rw [l1] at h1
      rw [l2] at h2
      obtain ⟨u1, e1, q1⟩ := r1.get (List.getElem?_eq_getElem h1)
      obtain ⟨u2, e2, q2⟩ := r2.get (List.getElem?_eq_getElem h2)
      have i1 : its.toArray[j] = u1 := by
        have := (List.getElem?_eq_some_iff.mp e1).2
        simpa using this
      have i2 : its2.toArray[j] = u2 := by
        have := (List.getElem?_eq_some_iff.mp e2).2
        simpa using this
      rw [i1, i2]
      exact EqR.at I (h j _ _ (List.getElem?_eq_getElem h1) (List.getElem?_eq_getElem h2)) q1 q2 (by rw [in1_units]; omega)
    rw [l1, l2] at q
    exact q
  | _, a, b, _, .lst (xs := xs) (ys := ys) e ha hb hl h, A, hu => by
    obtain ⟨its, r1, t1, z1⟩ := I.list ha
    obtain ⟨its2, r2, t2, z2⟩ := I.list hb
    have l1 : its.toArray.size = xs.length := by rw [List.size_toArray]; exact r1.length.symm
    have l2 : its2.toArray.size = ys.length := by rw [List.size_toArray]; exact r2.length.symm
    have q := SeqAt.RcAt.lists (A := A) (e := e) t1.isList t2.isList (by rw [l1, l2]; exact hl) (by omega) fun j h1 h2 => by
      rw [l1] at h1
      rw [l2] at h2
      obtain ⟨u1, e1, q1⟩ := r1.get (List.getElem?_eq_getElem h1)
      obtain ⟨u2, e2, q2⟩ := r2.get (List.getElem?_eq_getElem h2)
      have i1 : its.toArray[j] = u1 := by
        have := (List.getElem?_eq_some_iff.mp e1).2
        simpa using this
      have i2 : its2.toArray[j] = u2 := by
        have := (List.getElem?_eq_some_iff.mp e2).2
        simpa using this
      rw [i1, i2]
      exact EqR.at I (h j _ _ (List.getElem?_eq_getElem h1) (List.getElem?_eq_getElem h2)) q1 q2 (by rw [in1_units]; omega)
    rw [l1] at q
    exact q
  | _, a, b, _, .lstN (xs := xs) (ys := ys) ha hb hl, A, hu => by
    obtain ⟨its, r1, t1, z1⟩ := I.list ha
    obtain ⟨its2, r2, t2, z2⟩ := I.list hb
    have l1 : its.toArray.size = xs.length := by rw [List.size_toArray]; exact r1.length.symm
    have l2 : its2.toArray.size = ys.length := by rw [List.size_toArray]; exact r2.length.symm
    exact SeqAt.RcAt.lists_lengths t1.isList t2.isList (by rw [l1, l2]; simpa using hl) (by omega)
end
theorem EqR.rcNe (I : Inv X pins σ H s) : ∀ {n : Nat} {a b : Addr} {c : Bool}, EqR X.K H n (.ref a) (.ref b) c → ∀ {A : Around}, A.units + n < cLine → SeqAt.RcNeAt A s (.ref a) (.ref b) (!c)
  | _, _, _, _, .flat fx _, _, _ => absurd (show false = true from fx) Bool.false_ne_true
  | _, a, b, _, .tup (xs := xs) (ys := ys) e ha hb h, A, hu => by
    obtain ⟨its, r1, t1, z1⟩ := I.tuple ha
    obtain ⟨its2, r2, t2, z2⟩ := I.tuple hb
    have l1 : its.toArray.size = xs.length := by rw [List.size_toArray]; exact r1.length.symm
    have l2 : its2.toArray.size = ys.length := by rw [List.size_toArray]; exact r2.length.symm
    have q := SeqAt.RcNeAt.tuples (A := A) (e := e) t1 t2 (by omega) fun j h1 h2 => by
      rw [l1] at h1
      rw [l2] at h2
      obtain ⟨u1, e1, q1⟩ := r1.get (List.getElem?_eq_getElem h1)
      obtain ⟨u2, e2, q2⟩ := r2.get (List.getElem?_eq_getElem h2)
      have i1 : its.toArray[j] = u1 := by
        have := (List.getElem?_eq_some_iff.mp e1).2
        simpa using this
      have i2 : its2.toArray[j] = u2 := by
        have := (List.getElem?_eq_some_iff.mp e2).2
        simpa using this
      rw [i1, i2]
      exact EqR.at I (h j _ _ (List.getElem?_eq_getElem h1) (List.getElem?_eq_getElem h2)) q1 q2 (by rw [in1_units]; omega)
    rw [l1, l2] at q
    exact q
  | _, a, b, _, .lst (xs := xs) (ys := ys) e ha hb hl h, A, hu => by
    obtain ⟨its, r1, t1, z1⟩ := I.list ha
    obtain ⟨its2, r2, t2, z2⟩ := I.list hb
    have l1 : its.toArray.size = xs.length := by rw [List.size_toArray]; exact r1.length.symm
    have l2 : its2.toArray.size = ys.length := by rw [List.size_toArray]; exact r2.length.symm
    have q := SeqAt.RcNeAt.lists (A := A) (e := e) t1.isList t2.isList (by rw [l1, l2]; exact hl) (by omega) fun j h1 h2 => by
      rw [l1] at h1
      rw [l2] at h2
      obtain ⟨u1, e1, q1⟩ := r1.get (List.getElem?_eq_getElem h1)
      obtain ⟨u2, e2, q2⟩ := r2.get (List.getElem?_eq_getElem h2)
      have i1 : its.toArray[j] = u1 := by
        have := (List.getElem?_eq_some_iff.mp e1).2
        simpa using this
      have i2 : its2.toArray[j] = u2 := by
        have := (List.getElem?_eq_some_iff.mp e2).2
        simpa using this
      rw [i1, i2]
      exact EqR.at I (h j _ _ (List.getElem?_eq_getElem h1) (List.getElem?_eq_getElem h2)) q1 q2 (by rw [in1_units]; omega)
    rw [l1] at q
    exact q
  | _, a, b, _, .lstN (xs := xs) (ys := ys) ha hb hl, A, hu => by
    obtain ⟨its, r1, t1, z1⟩ := I.list ha
    obtain ⟨its2, r2, t2, z2⟩ := I.list hb
    have l1 : its.toArray.size = xs.length := by rw [List.size_toArray]; exact r1.length.symm
    have l2 : its2.toArray.size = ys.length := by rw [List.size_toArray]; exact r2.length.symm
    exact SeqAt.RcNeAt.lists_lengths t1.isList t2.isList (by rw [l1, l2]; simpa using hl) (by omega)
end
@[irreducible] def rEqO (K : PySem.W.Frag) (a b : Addr) (H : Hp) (Q : VK) : Prop := ∃ n c, n ≤ 40 ∧ EqR K H n (.ref a) (.ref b) c ∧ Q (.bl c) H
def rEqM (K : PySem.W.Frag) : R2 := fun x y H Q => match x, y with
  | .int i, .int j => Q (.bl (decide (i = j))) H
  | .bl i, .bl j => Q (.bl (decide (i = j))) H
  | .str i, .str j => Q (.bl (decide (i = j))) H
  | .ref a, .ref b => rEqO K a b H Q
  | x, y => scal x y = true ∧ Q (.bl (decide (x = y))) H
def rNeM (K : PySem.W.Frag) : R2 := fun x y H Q => rEqM K x y H fun v H' => match v with
  | .bl b => Q (.bl (!b)) H'
  | _ => False
theorem dec_inj {α β : Type} [DecidableEq α] [DecidableEq β] {f : α → β} (hf : ∀ a b, f a = f b → a = b) (a b : α) : decide (f a = f b) = decide (a = b) := by
  by_cases h : a = b
  · subst h; simp
  · rw [decide_eq_false h, decide_eq_false fun e => h (hf _ _ e)]
theorem oEq (hu : X.A.units + 40 < cLine) : OpR X (compareOp .Eq) (rEqM X.K) := by
  intro pins s σ H x y v u Q I rx ry h
  unfold rEqM at h
  split at h
  · rename_i i j
    exact op_eq pins s σ H _ _ v u Q I rx ry ⟨rfl, by rw [dec_inj (f := V.int) fun a b e => V.int.inj e]; exact h⟩
  · exact op_eq pins s σ H _ _ v u Q I rx ry ⟨rfl, by rw [dec_inj (f := V.bl) fun a b e => V.bl.inj e]; exact h⟩
  · exact op_eq pins s σ H _ _ v u Q I rx ry ⟨rfl, by rw [dec_inj (f := V.str) fun a b e => V.str.inj e]; exact h⟩
  · unfold rEqO at h
    obtain ⟨n, c, hn, h1, h2⟩ := h
    cases rx
    cases ry
    exact EqR.rc I h1 (A := X.A) (by omega) _ _ _ _ ⟨.bl c, H, I, rfl, h2⟩
  · exact op_eq pins s σ H _ _ v u Q I rx ry h
theorem oNe (hu : X.A.units + 40 < cLine) : OpR X (compareOp .NotEq) (rNeM X.K) := by
  intro pins s σ H x y v u Q I rx ry h
  unfold rNeM rEqM at h
  split at h
  · rename_i i j
    exact op_ne pins s σ H _ _ v u Q I rx ry ⟨rfl, by rw [dec_inj (f := V.int) fun a b e => V.int.inj e]; exact h⟩
  · exact op_ne pins s σ H _ _ v u Q I rx ry ⟨rfl, by rw [dec_inj (f := V.bl) fun a b e => V.bl.inj e]; exact h⟩
  · exact op_ne pins s σ H _ _ v u Q I rx ry ⟨rfl, by rw [dec_inj (f := V.str) fun a b e => V.str.inj e]; exact h⟩
  · unfold rEqO at h
    obtain ⟨n, c, hn, h1, h2⟩ := h
    cases rx
    cases ry
    exact EqR.rcNe I h1 (A := X.A) (by omega) _ _ _ _ ⟨.bl (!c), H, I, rfl, h2⟩
  · exact op_ne pins s σ H _ _ v u Q I rx ry ⟨h.1, h.2⟩
section
variable {K : PySem.W.Frag} {H : Hp} {Q : VK} {a b : Addr} {c : Bool} {n : Nat}
theorem eqO_rd (h : EqR K H n (.ref a) (.ref b) c) (q : Q (.bl c) H) (hn : n ≤ 40 := by decide) : rEqO K a b H Q := by unfold rEqO; exact ⟨n, c, hn, h, q⟩
end

/-! ### tests, and, or, not, if -/
/-- a value's truth -/
def qB (t : TE) : TT := fun σ H Q => t σ H fun x H1 => match x with
  | .bl c => Q c H1
  | .int i => Q (!decide (i = 0)) H1
  | _ => False
theorem ptV {e : Expr} {t : TE} (h : PE X e t) (he : ∀ whole, isTrue e X.env whole = (do let v ← whole; standAt e.pos; holding [v] (truthy v)) := by intro _; rfl) : PT X e (qB t) := fun pins s σ H Q I hw => by
  refine isTrue_plain (thn (h pins s σ H _ I hw) fun v s1 ⟨x, H1, I1, r1, q1⟩ => ?_) (he _)
  dsimp only at q1
  split at q1
  · exact tru_ok pins s1 σ H1 _ v Q I1 r1 ⟨_, rfl, q1⟩
  · rename_i i
    refine tru_ok pins s1 σ H1 _ v Q I1 r1 ⟨_, rfl, ?_⟩
    have e : (i != 0) = !decide (i = 0) := by by_cases h : i = 0 <;> simp [h]
    rw [e]; exact q1
  · exact q1.elim
theorem ptC {a b : Expr} {ta tb : TE} {pos : Pos} {op : CmpOp} {r : R2} (ho : OpR X (compareOp op) r) (ha : PE X a ta) (hb : PE X b tb) (hm : behindInMarks op b = false := by first | exact nomark _ | with_unfolding_all rfl) : PT X (.Compare a [op] [b] pos) (qB (tOp r ta tb)) := by
  intro pins s σ H Q I h
  refine wpAny_isTrue_Compare1 (thn (ha pins s σ H _ I h) fun v s1 ⟨x, H1, I1, r1, q1⟩ => thn (hb pins s1 σ H1 _ I1 q1) fun u s2 ⟨y, H2, I2, r2, q2⟩ =>
    thn (ho pins s2 σ H2 x y v u _ I2 r1 r2 q2) fun c s3 ⟨z, H3, I3, r3, q3⟩ => ?_) hm
  dsimp only at q3
  split at q3
  · cases r3
    exact wpAny_truthy_bool ⟨H3, I3, q3⟩
  · rename_i i
    refine tru_ok pins s3 σ H3 _ c Q I3 r3 ⟨_, rfl, ?_⟩
    have e : (i != 0) = !decide (i = 0) := by by_cases h : i = 0 <;> simp [h]
    rw [e]; exact q3
  · exact q3.elim
theorem peC {a b : Expr} {ta tb : TE} {pos : Pos} {op : CmpOp} {r : R2} (ho : OpR X (compareOp op) r) (ha : PE X a ta) (hb : PE X b tb) (hm : behindInMarks op b = false := by first | exact nomark _ | with_unfolding_all rfl) : PE X (.Compare a [op] [b] pos) (tOp r ta tb) :=
  pe_cmpR ho ha hb hm

variable {a b : Expr} {rest : List Expr} {tA tB' : TT} {ta tb : TE} {pos : Pos}
def qAnd (t u : TT) : TT := fun σ H Q => t σ H fun c H1 => br c (u σ H1 Q) (Q false H1)
def qOr (t u : TT) : TT := fun σ H Q => t σ H fun c H1 => br c (Q true H1) (u σ H1 Q)
theorem pwAnd (ha : PT X a tA) (hb : PW X (.BoolOp .And (b :: rest) pos) tB') : PW X (.BoolOp .And (a :: b :: rest) pos) (qAnd tA tB') := fun wh pins s σ H Q I h =>
  pw_and ha hb wh pins s σ H Q I (by unfold qAnd at h; simp only [br_iff] at h; exact h)
theorem pwOr (ha : PT X a tA) (hb : PW X (.BoolOp .Or (b :: rest) pos) tB') : PW X (.BoolOp .Or (a :: b :: rest) pos) (qOr tA tB') := fun wh pins s σ H Q I h =>
  pw_or ha hb wh pins s σ H Q I (by unfold qOr at h; simp only [br_iff] at h; exact h)
def qAndV (ta tb : TE) : TE := fun σ H Q => ta σ H fun x H1 => match x with
  | .bl c => br c (tb σ H1 Q) (Q (.bl false) H1)
  | _ => False
def qNotV (ta : TE) : TE := fun σ H Q => ta σ H fun x H1 => match x with
  | .bl c => Q (.bl (!c)) H1
  | _ => False
theorem peAnd (ha : PE X a ta) (hb : PE X (.BoolOp .And (b :: rest) pos) tb) : PE X (.BoolOp .And (a :: b :: rest) pos) (qAndV ta tb) := by
  intro pins s σ H Q I h
  refine BoolOp_and (thn (ha pins s σ H _ I h) fun v s1 ⟨x, H1, I1, r1, q1⟩ => ?_)
  dsimp only at q1
  split at q1
  · rename_i c
    cases r1
    refine wpAny_truthy_bool ?_
    rw [br_iff] at q1
    cases c with
    | true => exact hb pins s1 σ H1 Q I1 (by simpa using q1)
    | false => exact ⟨.bl false, H1, I1, rfl, by simpa using q1⟩
  · exact q1.elim
theorem peNot (ha : PE X a ta) : PE X (.UnaryOp .Not a pos) (qNotV ta) := by
  intro pins s σ H Q I h
  refine UnaryOp_ (thn (ha pins s σ H _ I h) fun v s1 ⟨x, H1, I1, r1, q1⟩ => ?_)
  dsimp only at q1
  split at q1
  · rename_i c
    cases r1
    exact not_of (wpAny_truthy_bool ⟨.bl (!c), H1, I1, rfl, q1⟩)
  · exact q1.elim
def qIf (t : TT) (ta tb : TE) : TE := fun σ H Q => t σ H fun c H1 => br c (ta σ H1 Q) (tb σ H1 Q)
theorem peIf {c : Expr} (hc : PT X c tA) (ha : PE X a ta) (hb : PE X b tb) : PE X (.IfExp c a b pos) (qIf tA ta tb) := fun pins s σ H Q I h =>
  pe_ifExp hc ha hb pins s σ H Q I (by unfold qIf at h; simp only [br_iff] at h; exact h)
def qChain (r r' : R2) (ta tb tc : TE) : TE := fun σ H Q => ta σ H fun x H1 => tb σ H1 fun y H2 => r x y H2 fun z H3 => match z with
  | .bl k => br k (tc σ H3 fun w' H4 => r' y w' H4 Q) (Q (.bl false) H3)
  | _ => False
theorem peChain {c : Expr} {tc : TE} {op op' : CmpOp} {r r' : R2} (ho : OpR X (compareOp op) r) (ho' : OpR X (compareOp op') r') (ha : PE X a ta) (hb : PE X b tb) (hc : PE X c tc)
    (hm : lastMarks [op, op'] [b, c] = false := by with_unfolding_all rfl) : PE X (.Compare a [op, op'] [b, c] pos) (qChain r r' ta tb tc) := by
  intro pins s σ H Q I h
  refine Compare_chain (thn (ha pins s σ H _ I h) fun v s1 ⟨x, H1, I1, r1, q1⟩ => chain_link (thn (hb pins s1 σ H1 _ I1 q1) fun u s2 ⟨y, H2, I2, r2, q2⟩ =>
    thn (ho pins s2 σ H2 x y v u _ I2 r1 r2 q2) fun d s3 ⟨z, H3, I3, r3, q3⟩ => ?_)) hm
  dsimp only at q3
  split at q3
  · rename_i k
    cases r3
    refine wpAny_truthy_bool ?_
    rw [br_iff] at q3
    cases k with
    | false => exact ite_ff ⟨.bl false, H3, I3, rfl, by simpa using q3⟩
    | true => exact ite_tt (chain_last (thn (hc pins s3 σ H3 _ I3 (by simpa using q3)) fun w' s4 ⟨z', H4, I4, r4, q4⟩ => ho' pins s4 σ H4 y z' u w' Q I4 r2 r4 q4))
  · exact q3.elim

/-! ### statements -/
variable {st : Stmt} {t u : TS} {e : Expr} {te : TE}
def qIfS (c : TT) (t u : TS) : TS := fun D σ H => c σ H fun b H1 => br b (t D σ H1) (u D σ H1)
theorem psIf {c : Expr} {a b : List Stmt} {tc : TT} (hc : PT X c tc) (ha : PSs X a t) (hb : PSs X b u) : PS X (.If c a b pos) (qIfS tc t u) := fun pins s σ H D I h =>
  ps_if hc ha hb pins s σ H D I (by unfold qIfS at h; simp only [br_iff] at h; exact h)
@[irreducible] def loopW (J : It) (g : TG) (tb : TS) (D : Ends) (σ : St) (H1 : Hp) : Prop := ∃ W : Nat → Nat → St → Hp → Prop, (∃ m, W 0 m σ H1) ∧ ∀ i m σ H, W i m σ H →
  (J.stop i H ∧ D.nx σ H) ∨ (J.go i H ∧ ∃ N : St → Hp → Prop, (∀ σ' H', N σ' H' → ∃ m', m' < m ∧ W (i + 1) m' σ' H') ∧ ∀ x H', J.yld i H x H' → g x σ H' fun σ2 H2 => tb { D with nx := N, ct := N, bk := D.nx } σ2 H2)
def qFor (wi : TI) (g : TG) (tb : TS) : TS := fun D σ H => wi σ H fun J H1 => loopW J g tb D σ H1
theorem psFor {iter tg : Expr} {body : List Stmt} {wi : TI} {g : TG} {tb : TS} {pos : Pos} (hp : PassesOwn (model X.prog X.w) X.A X.env X.xe) (hc : X.calm = true) (hi : PI X tg iter wi) (hg : PG X tg g) (hb : PSs X body tb)
    (hs : ∀ x, foldedSetIterable iter X.env x = pure x := by intro _; rfl) : PS X (.For tg iter body [] pos) (qFor wi g tb) := fun pins s σ H D I h =>
  ps_for hp hc hi hg hb hs pins s σ H D I (by unfold qFor at h; unfold loopW at h; exact h)
@[irreducible] def rIter (K : PySem.W.Frag) (a : Addr) (H : Hp) (R : It → Hp → Prop) : Prop := ((∃ xs, SqL K H a xs) ∧ R (Itl K a) H) ∨ ((∃ xs, SqT K H a xs) ∧ R (Itt K a) H)
def qiSeq (K : PySem.W.Frag) (tl : TE) : TI := fun σ H R => tl σ H fun x H1 => match x with
  | .ref a => rIter K a H1 R
  | _ => False
theorem piSeq {tg l : Expr} {tl : TE} (hl : PE X l tl) : PI X tg l (qiSeq X.K tl) := by
  intro pins s σ H R I h
  refine thn (hl pins s σ H _ I h) fun v s1 ⟨x, H1, I1, r1, q1⟩ => ?_
  dsimp only at q1
  split at q1
  · rename_i a
    unfold rIter at q1
    cases r1
    have fp : ∀ b ∈ [s1.heap.objs.size], FpOk X pins H1 b := fun b hb => by
      have e : b = s1.heap.objs.size := by simpa using hb
      subst e
      exact I1.fpOk (Nat.le_refl _) (I1.hok.fresh (Nat.le_refl _))
    rcases q1 with ⟨⟨xs, hq⟩, q⟩ | ⟨⟨xs, hq⟩, q⟩
    · obtain ⟨its, rv, p, hz⟩ := I1.list hq
      refine wpAny_pyIter_list p.isList ?_
      exact ⟨s1.heap.objs.size, [s1.heap.objs.size], _, _, H1, rfl, I1.kept (t' := s1.toks) fun b o e => Heap.get?_push_of_some _ e, turn_list a _, ⟨_, Heap.get?_push_size _ rfl, rfl, rfl⟩, fp, q⟩
    · obtain ⟨its, rv, p, hz⟩ := I1.tuple hq
      refine wpAny_pyIter_tuple (show s1.heap.IsTuple a its.toArray from p) ?_
      exact ⟨s1.heap.objs.size, [s1.heap.objs.size], _, _, H1, rfl, I1.kept (t' := s1.toks) fun b o e => Heap.get?_push_of_some _ e, turn_tuple a _, ⟨_, Heap.get?_push_size _ rfl, rfl, rfl⟩, fp, q⟩
  · exact q1.elim
@[irreducible] def rRange (i j : Int) (H : Hp) (R : It → Hp → Prop) : Prop := (-(2 ^ 62) ≤ i ∧ i < 2 ^ 62 ∧ -(2 ^ 62) ≤ j ∧ j < 2 ^ 62) ∧ R (Itr i (j - i).toNat) H
def qiRng (ta : TA) : TI := fun σ H R => ta σ H fun vs H1 => match vs with
  | [.int j] => rRange 0 j H1 R
  | [.int i, .int j] => rRange i j H1 R
  | _ => False
theorem piRng1 {tg a : Expr} {ta : TA} {p pos : Pos} (hm : X.mg "range" = none) (ha : PA X [a] ta) (hg : Gl X "range" := by rfl) (hs : starEach [a] X.env = [(false, eval a X.env)] := by rfl) : PI X tg (.Call (.Name "range" p) [a] [] pos) (qiRng ta) := by
  intro pins s σ H R I h
  refine Call_ (ld_blt I hg hm boot_range (PyProof.Rows.callWith_type1 (thn (ha pos pins s σ H _ I h) fun us s1 ⟨vs, H1, I1, r1, q1⟩ => ?_) hs rfl))
  dsimp only at q1
  split at q1
  · unfold rRange at q1
    obtain ⟨⟨a1, a2, a3, a4⟩, q⟩ := q1
    cases r1 with
    | cons r rr =>
      cases rr
      obtain ⟨t, rfl⟩ := r
      exact call_range_1 (range_it I1 a1 a2 a3 a4 q)
  · unfold rRange at q1
    cases r1 with
    | cons r rr =>
      cases rr with
      | cons r' rr =>
        cases rr
        obtain ⟨t, rfl⟩ := r
        obtain ⟨t', rfl⟩ := r'
        obtain ⟨⟨a1, a2, a3, a4⟩, q⟩ := q1
        exact call_range_2 (range_it I1 a1 a2 a3 a4 q)
  · exact q1.elim
/-! the loops' readings -/
section
variable {K : PySem.W.Frag} {g : TG} {tb : TS} {D : Ends} {σ : St} {H : Hp} {R : It → Hp → Prop}
theorem iterL_rd {a : Addr} {xs : List V} (h : H a = some (.lst xs)) (q : R (Itl K a) H) : rIter K a H R := by unfold rIter; exact .inl ⟨⟨xs, SqL.of h⟩, q⟩
theorem iterT_rd {a : Addr} {xs : List V} (h : H a = some (.tup xs)) (q : R (Itt K a) H) : rIter K a H R := by unfold rIter; exact .inr ⟨⟨xs, SqT.of h⟩, q⟩
theorem range_rd {i j : Int} (h1 : -(2 ^ 62) ≤ i) (h2 : i < 2 ^ 62) (h3 : -(2 ^ 62) ≤ j) (h4 : j < 2 ^ 62) (q : R (Itr i (j - i).toNat) H) : rRange i j H R := by unfold rRange; exact ⟨⟨h1, h2, h3, h4⟩, q⟩
theorem loop_list {a : Addr} {xs : List V} (Pv : Nat → St → Hp → Prop) (h0 : Pv 0 σ H) (hl : ∀ i σ H, i ≤ xs.length → Pv i σ H → SqL K H a xs)
    (hs : ∀ i x σ H, xs[i]? = some x → Pv i σ H → g x σ H fun σ2 H2 => tb { D with nx := Pv (i + 1), ct := Pv (i + 1), bk := D.nx } σ2 H2) (hd : ∀ σ H, Pv xs.length σ H → D.nx σ H) : loopW (Itl K a) g tb D σ H := by
  unfold loopW; exact for_list Pv h0 hl hs hd
theorem loop_range {lo : Int} {n : Nat} (Pv : Nat → St → Hp → Prop) (h0 : Pv 0 σ H)
    (hs : ∀ i σ H, i < n → Pv i σ H → g (.int (lo + i)) σ H fun σ2 H2 => tb { D with nx := Pv (i + 1), ct := Pv (i + 1), bk := D.nx } σ2 H2) (hd : ∀ σ H, Pv n σ H → D.nx σ H) : loopW (Itr lo n) g tb D σ H := by
  unfold loopW; exact for_range Pv h0 hs hd
end
/-! while -/
section
variable {c : TT} {tb : TS} {D : Ends} {σ : St} {H H1 : Hp} {W : Nat → St → Hp → Prop} {m : Nat} {p : Prop}
end

/-! ### displays, index, store, slices -/
@[irreducible] def rNewT (xs : List V) (H : Hp) (Q : VK) : Prop := xs.length ≤ sizeLine ∧ ∀ p H', H p = none → Same H H' → H' p = some (.tup xs) → Q (.ref p) H'
@[irreducible] def rNewL (xs : List V) (H : Hp) (Q : VK) : Prop := xs.length ≤ sizeLine ∧ ∀ p H', H p = none → Same H H' → H' p = some (.lst xs) → Q (.ref p) H'
def qTup (t : TA) : TE := fun σ H Q => t σ H fun xs H1 => rNewT xs H1 Q
def qLst (t : TA) : TE := fun σ H Q => t σ H fun xs H1 => rNewL xs H1 Q
theorem peTup {es : List Expr} {x1} {t : TA} (h : PA X es t) : PE X (.Tuple es x1 pos) (qTup t) := by
  intro pins s σ H Q I hq
  refine wpAny_Tuple_spliced (thn (h pos pins s σ H _ I hq) fun us s1 ⟨xs, H1, I1, r, z⟩ => ?_)
  unfold rNewT at z
  obtain ⟨z, q⟩ := z
  refine ⟨by rw [← r.length]; exact z, ?_⟩
  have hf : H1 s1.heap.objs.size = none := I1.hok.fresh (Nat.le_refl _)
  refine ⟨.ref s1.heap.objs.size, upd H1 s1.heap.objs.size (.tup xs), I1.laid (t' := s1.toks) (fun b u e => Heap.get?_push_of_some _ e) (Nat.le_refl _) ?_, rfl, q _ _ hf (Same.upd hf) upd_same⟩
  exact ⟨z, us, r, ⟨_, Heap.get?_push_size _ rfl, rfl, _, rfl⟩⟩
theorem peLst {es : List Expr} {t : TA} (h : PA X es t) : PE X (.List es pos) (qLst t) := by
  intro pins s σ H Q I hq
  refine wpAny_List_spliced (thn (h pos pins s σ H _ I hq) fun us s1 ⟨xs, H1, I1, r, z⟩ => ?_)
  unfold rNewL at z
  obtain ⟨z, q⟩ := z
  refine ⟨by rw [← r.length]; exact z, ?_⟩
  have hf : H1 s1.heap.objs.size = none := I1.hok.fresh (Nat.le_refl _)
  refine ⟨.ref s1.heap.objs.size, upd H1 s1.heap.objs.size (.lst xs), I1.laid (t' := s1.toks) (fun b u e => Heap.get?_push_of_some _ e) (Nat.le_refl _) ?_, rfl, q _ _ hf (Same.upd hf) upd_same⟩
  exact ⟨z, us, 0, r, Heap.get?_push_size _ rfl⟩
@[irreducible] def rIxA (K : PySem.W.Frag) (p : Addr) (i : Int) (H : Hp) (Q : VK) : Prop := ∃ xs v, (SqL K H p xs ∨ SqT K H p xs) ∧ atI xs i = some v ∧ Q v H
def rIxM (K : PySem.W.Frag) : R2 := fun x y H Q => match x, y with
  | .ref p, .int i => rIxA K p i H Q
  | .str z, .int i => ∃ c, z.length ≤ sizeLine ∧ atI z.cps.toList i = some c ∧ Q (.str ⟨#[c]⟩) H
  | _, _ => False
theorem ixM : IxR X (rIxM X.K) := by
  intro value slice pins s σ H x y v u Q I rx ry h hs
  unfold rIxM at h
  split at h
  · unfold rIxA at h
    obtain ⟨xs, z, h1, h2, q⟩ := h
    rcases h1 with h1 | h1
    · exact ix_list value slice pins s σ H _ _ v u Q I rx ry ⟨_, xs, _, z, rfl, rfl, h1, h2, q⟩ hs
    · exact ix_tup value slice pins s σ H _ _ v u Q I rx ry ⟨_, xs, _, z, rfl, rfl, h1, h2, q⟩ hs
  · obtain ⟨c, h1, h2, q⟩ := h
    exact ix_str value slice pins s σ H _ _ v u Q I rx ry ⟨_, _, c, rfl, rfl, h1, h2, q⟩ hs
  · exact h.elim
theorem peIx (ha : PE X a ta) (hb : PE X b tb) (hs : PlainIx b := by exact fun _ _ => rfl) : PE X (.Subscript a b pos) (tOp (rIxM X.K) ta tb) := pe_ix ixM ha hb hs
@[irreducible] def rSetA (p : Addr) (k : Int) (v : V) (H : Hp) (Q : Hp → Prop) : Prop := ∃ xs j, H p = some (.lst xs) ∧ ixN xs.length k = some j ∧ ∀ H', Chg p H H' → H' p = some (.lst (xs.set j v)) → Q H'
def rSetM : TSet := fun o i v H Q => match o, i with
  | .ref p, .int k => rSetA p k v H Q
  | _, _ => False
theorem setM : PSet X rSetM := by
  intro pins s σ H o i v ov iv u Q I ro ri rv h
  unfold rSetM at h
  split at h
  · unfold rSetA at h
    obtain ⟨xs, j, h1, h2, q⟩ := h
    exact set_list pins s σ H _ _ v ov iv u Q I ro ri rv ⟨_, xs, _, j, rfl, rfl, h1, h2, q _ Chg.upd upd_same⟩
  · exact h.elim
@[irreducible] def rSlA (K : PySem.W.Frag) (a : Addr) (lo hi : Option Int) (H : Hp) (Q : VK) : Prop := ∃ xs, SqL K H a xs ∧ ∀ p H', H p = none → Same H H' → H' p = some (.lst (cutV xs lo hi)) → Q (.ref p) H'
def rSlM (K : PySem.W.Frag) : V → Option Int → Option Int → Hp → VK → Prop := fun x lo hi H Q => match x with
  | .ref a => rSlA K a lo hi H Q
  | _ => False
theorem slM : SlR X (rSlM X.K) := by
  intro pins s σ H x v vl vu lo hi sl Q I rx hs pl pu h
  unfold rSlM at h
  split at h
  · unfold rSlA at h
    obtain ⟨xs, h1, q⟩ := h
    exact sl_list pins s σ H _ v vl vu lo hi sl Q I rx hs pl pu ⟨_, xs, rfl, h1, fun p hp => q p _ hp (Same.upd hp) upd_same⟩
  · exact h.elim
def qPart (t : TE) : TO := fun σ H Q => t σ H fun x H1 => match x with
  | .int i => Q (some i) H1
  | _ => False
theorem poSome (h : PE X e te) : PO X (some e) (qPart te) := by
  intro pins s σ H Q I hw
  rw [evalPart_some]
  refine thn (h pins s σ H _ I hw) fun u s1 ⟨x, H1, I1, r1, q1⟩ => ?_
  dsimp only at q1
  split at q1
  · rename_i i
    obtain ⟨t, rfl⟩ := r1
    exact ⟨some i, H1, I1, .int i t, q1⟩
  · exact q1.elim
section
variable {K : PySem.W.Frag} {H : Hp} {Q : VK} {p : Addr} {xs : List V} {v : V} {i : Int}
theorem newT_rd (q : ∀ p H', H p = none → Same H H' → H' p = some (.tup xs) → Q (.ref p) H') (h : xs.length ≤ sizeLine := by first | assumption | (simp only [List.length_cons, List.length_nil, Nat.zero_add, Nat.reduceAdd]; decide)) : rNewT xs H Q := by unfold rNewT; exact ⟨h, q⟩
theorem newL_rd (q : ∀ p H', H p = none → Same H H' → H' p = some (.lst xs) → Q (.ref p) H') (h : xs.length ≤ sizeLine := by first | assumption | (simp only [List.length_cons, List.length_nil, Nat.zero_add, Nat.reduceAdd]; decide)) : rNewL xs H Q := by unfold rNewL; exact ⟨h, q⟩
theorem ixT_rd (h : H p = some (.tup xs)) (e : atI xs i = some v) (q : Q v H) : rIxA K p i H Q := by unfold rIxA; exact ⟨xs, v, .inr (SqT.of h), e, q⟩
theorem ixL_rd (h : H p = some (.lst xs)) (e : atI xs i = some v) (q : Q v H) : rIxA K p i H Q := by unfold rIxA; exact ⟨xs, v, .inl (SqL.of h), e, q⟩
theorem set_rd {R : Hp → Prop} {j : Nat} (h : H p = some (.lst xs)) (e : ixN xs.length i = some j) (q : ∀ H', Chg p H H' → H' p = some (.lst (xs.set j v)) → R H') : rSetA p i v H R := by unfold rSetA; exact ⟨xs, j, h, e, q⟩
theorem sl_rd {lo hi : Option Int} (h : SqL K H p xs) (q : ∀ p H', H p = none → Same H H' → H' p = some (.lst (cutV xs lo hi)) → Q (.ref p) H') : rSlA K p lo hi H Q := by unfold rSlA; exact ⟨xs, h, q⟩
end

/-! ### tuple targets -/
def qgNil : TGs := fun vs σ H Q => match vs with
  | [] => Q σ H
  | _ => False
def qgCons (t : TG) (u : TGs) : TGs := fun vs σ H Q => match vs with
  | v :: r => t v σ H fun σ' H' => u r σ' H' Q
  | _ => False
theorem pgsNil : PGs X [] qgNil := fun pins s σ H vs us Q I r h => by
  unfold qgNil at h
  split at h
  · exact pgs_nil pins s σ H _ us Q I r ⟨rfl, h⟩
  · exact h.elim
theorem pgsCons {e : Expr} {es : List Expr} {t : TG} {u : TGs} (h1 : PG X e t) (h2 : PGs X es u)
    (hs : (assignEach (e :: es) X.env).map (·.2) = assign e X.env :: (assignEach es X.env).map (·.2) := by rfl) : PGs X (e :: es) (qgCons t u) := fun pins s σ H vs us Q I r h => by
  unfold qgCons at h
  split at h
  · exact pgs_cons h1 h2 hs pins s σ H _ us Q I r ⟨_, _, rfl, h⟩
  · exact h.elim
end
end L2

set_option Elab.async false
set_option linter.all false
set_option maxRecDepth 100000
set_option maxHeartbeats 1000000
namespace L2
open PySem PySem.Spec PyProof.Rows
section
variable {X : Cx}
/-! ### built-in calls, by values -/
def rAbsM : List V → Hp → VK → Prop := fun xs H Q => match xs with
  | [.int i] => Q (.int (i.natAbs : Int)) H
  | _ => False
def rIntM : List V → Hp → VK → Prop := fun xs H Q => match xs with
  | [.int i] => Q (.int i) H
  | [.bl k] => Q (.int (if k = true then 1 else 0)) H
  | _ => False
theorem cInt : CallR X (.type "int") rIntM := fun pins s σ H xs us Q I r h => by
  unfold rIntM at h
  split at h
  · exact call_int1 pins s σ H _ us Q I r (.inl ⟨_, rfl, h⟩)
  · exact call_int1 pins s σ H _ us Q I r (.inr ⟨_, rfl, h⟩)
  · exact h.elim
@[irreducible] def rLenA (K : PySem.W.Frag) (p : Addr) (H : Hp) (Q : VK) : Prop := ∃ ys, (SqL K H p ys ∨ SqT K H p ys) ∧ Q (.int ys.length) H
def rLenM (K : PySem.W.Frag) : List V → Hp → VK → Prop := fun xs H Q => match xs with
  | [.ref p] => rLenA K p H Q
  | [.str z] => z.length ≤ sizeLine ∧ Q (.int z.length) H
  | _ => False
theorem cLen : CallR X (.builtin "len") (rLenM X.K) := fun pins s σ H xs us Q I r h => by
  unfold rLenM at h
  split at h
  · unfold rLenA at h
    obtain ⟨ys, h1, h2⟩ := h
    exact call_len_seq pins s σ H _ us Q I r ⟨_, ys, rfl, h1, h2⟩
  · exact call_len_str pins s σ H _ us Q I r ⟨_, rfl, h.1, h.2⟩
  · exact h.elim
@[irreducible] def rIsiA (K : PySem.W.Frag) (x c : V) (H : Hp) (Q : VK) : Prop := ∃ t b, TyOf K H x t ∧ (∀ cv, RelV c cv → PySem.W.kitOne K t cv = some b) ∧ Q (.bl b) H
def rIsiM (K : PySem.W.Frag) : List V → Hp → VK → Prop := fun xs H Q => match xs with
  | [x, c] => rIsiA K x c H Q
  | _ => False
theorem cIsi : CallR X (.builtin "isinstance") (rIsiM X.K) := fun pins s σ H xs us Q I r h => by
  unfold rIsiM at h
  split at h
  · unfold rIsiA at h
    obtain ⟨t, b, h1, h2, h3⟩ := h
    obtain ⟨u, w, rfl, r1, r2⟩ := vals2 r
    exact isinst_ok I r1 h1 (h2 _ r2) fun tk => ⟨.bl b, H, I.tok _, rfl, h3⟩
  · exact h.elim
section
variable {K : PySem.W.Frag} {H : Hp} {Q : VK} {p : Addr} {xs : List V}
theorem lenL_rd (h : H p = some (.lst xs)) (q : Q (.int xs.length) H) : rLenA K p H Q := by unfold rLenA; exact ⟨xs, .inl (SqL.of h), q⟩
theorem lenT_rd (h : H p = some (.tup xs)) (q : Q (.int xs.length) H) : rLenA K p H Q := by unfold rLenA; exact ⟨xs, .inr (SqT.of h), q⟩
theorem isiI_rd {i : Int} {n : String} {b : Bool} (q : Q (.bl b) H) (e : PySem.W.kitOne K (.type "int") (.type n) = some b := by rfl) : rIsiA K (.int i) (.ty n) H Q := by
  unfold rIsiA; exact ⟨_, b, .int i, fun cv r => by cases r; exact e, q⟩
theorem isiB_rd {i : Bool} {n : String} {b : Bool} (q : Q (.bl b) H) (e : PySem.W.kitOne K (.type "bool") (.type n) = some b := by rfl) : rIsiA K (.bl i) (.ty n) H Q := by
  unfold rIsiA; exact ⟨_, b, .bl i, fun cv r => by cases r; exact e, q⟩
theorem isiS_rd {x : Str} {n : String} {b : Bool} (q : Q (.bl b) H) (e : PySem.W.kitOne K (.type "str") (.type n) = some b := by rfl) : rIsiA K (.str x) (.ty n) H Q := by
  unfold rIsiA; exact ⟨_, b, .str x, fun cv r => by cases r; exact e, q⟩
theorem isiT_rd {n : String} {b : Bool} (h : H p = some (.tup xs)) (q : Q (.bl b) H) (e : PySem.W.kitOne K (.type "tuple") (.type n) = some b := by rfl) : rIsiA K (.ref p) (.ty n) H Q := by
  unfold rIsiA; exact ⟨_, b, .tup h, fun cv r => by cases r; exact e, q⟩
theorem isiL_rd {n : String} {b : Bool} (h : H p = some (.lst xs)) (q : Q (.bl b) H) (e : PySem.W.kitOne K (.type "list") (.type n) = some b := by rfl) : rIsiA K (.ref p) (.ty n) H Q := by
  unfold rIsiA; exact ⟨_, b, .lst h, fun cv r => by cases r; exact e, q⟩
end
/-! the names of the built-ins -/
theorem bt_len : bootBuiltins "len" = some (.builtin "len") := by decide +kernel
theorem bt_sum : bootBuiltins "sum" = some (.builtin "sum") := by decide +kernel
theorem bt_all : bootBuiltins "all" = some (.builtin "all") := by decide +kernel
theorem bt_isinstance : bootBuiltins "isinstance" = some (.builtin "isinstance") := by decide +kernel
theorem bt_sorted : bootBuiltins "sorted" = some (.builtin "sorted") := by decide +kernel
theorem bt_int : bootBuiltins "int" = some (.type "int") := by decide +kernel
theorem bt_bool : bootBuiltins "bool" = some (.type "bool") := by decide +kernel
theorem bt_list : bootBuiltins "list" = some (.type "list") := by decide +kernel
theorem bt_tuple : bootBuiltins "tuple" = some (.type "tuple") := by decide +kernel
theorem pTy {x : Str} {n : String} {pos : Pos} (hm : X.mg x = none) (hv : bootBuiltins x = some (.type n)) (hg : Gl X x := by rfl) (hn : x ≠ "__name__" := by decide) (hd : (x == ("__debug__" : Str)) = false := by decide) : PE X (.Name x pos) (tC (.ty n)) :=
  pe_bltn hg hm hv rfl hn hd
theorem pB {x : Str} {p pos : Pos} {e : Expr} {es : List Expr} {t : TA} {id : String} {r : List V → Hp → VK → Prop} (hc : CallR X (.builtin id) r) (hm : X.mg x = none) (hv : bootBuiltins x = some (.builtin id)) (ha : PA X (e :: es) t) (hg : Gl X x := by rfl) (hn : x ≠ "__name__" := by decide) (hdb : (x == ("__debug__" : Str)) = false := by decide)
    (he : starEach (e :: es) X.env = (false, eval e X.env) :: starEach es X.env := by rfl) (hpl : (backTo pos (starEach es X.env)).any (·.1) = false := by rfl) : PE X (.Call (.Name x p) (e :: es) [] pos) (tCB r t) := pe_callB hc hg hm hv ha hn hdb he hpl
theorem pT {x : Str} {p pos : Pos} {e : Expr} {es : List Expr} {t : TA} {id : String} {r : List V → Hp → VK → Prop} (hc : CallR X (.type id) r) (hm : X.mg x = none) (hv : bootBuiltins x = some (.type id)) (ha : PA X (e :: es) t) (hg : Gl X x := by rfl) (hn : x ≠ "__name__" := by decide) (hdb : (x == ("__debug__" : Str)) = false := by decide)
    (he : starEach (e :: es) X.env = (false, eval e X.env) :: starEach es X.env := by rfl) (hpl : (backTo pos (starEach es X.env)).any (·.1) = false := by rfl) : PE X (.Call (.Name x p) (e :: es) [] pos) (tCB r t) := pe_callTy hc hg hm hv ha hn hdb he hpl
/-! a def of the text, called: what is known of it -/
structure Def (P : Program) (w : World) (K : PySem.W.Frag) (mg : Str → Option Value) (base : Heap) (CX : CXT) (k : Nat) (x : Str) (ps : List Str) (sp : Sp) : Prop where
  ex : ∃ (f : Addr) (fd : FuncData), FnOk P w K mg base CX k f fd ps sp ∧ mg x = some (.ref f) ∧ PySem.W.keepIn K (.ref f) = true ∧ Binds K fd ps []
def qCall (sp : Sp) (E : XK) (t : TA) : TE := fun σ H Q => t σ H fun vs H1 => sp vs H1 Q E
theorem pD {CX : CXT} {k j : Nat} {x : Str} {ps : List Str} {sp : Sp} {E : XK} {p pos : Pos} {e : Expr} {es : List Expr} {t : TA} (F : Def X.prog X.w X.K X.mg X.base CX k x ps sp) (hr : Room j X.A) (hx : Passes CX X E) (ha : PA X (e :: es) t) (hk : k ≤ j := by decide) (hg : Gl X x := by rfl)
    (hdb : (x == ("__debug__" : Str)) = false := by decide) (he : starEach (e :: es) X.env = (false, eval e X.env) :: starEach es X.env := by rfl) (hpl : (backTo pos (starEach es X.env)).any (·.1) = false := by rfl) :
    PE X (.Call (.Name x p) (e :: es) [] pos) (qCall sp E t) := by
  obtain ⟨f, fd, F1, F2, F3, F4⟩ := F.ex
  intro pins s σ H Q I h
  refine pe_call F1 (hr.mono hk) hg F2 F3 F4 .nil hx ha hdb he hpl pins s σ H Q I ?_
  unfold tCall
  simp only [List.append_nil]
  exact h
theorem psS {i : Nat} {x : Str} {e : Expr} {te : TE} {pos' pos : Pos} (hN : X.N.Nodup) (he : PE X e te) (hi : X.N[i]? = some x := by rfl) (hx : Loc X.env.scope x := by first | exact Or.inl rfl | exact Or.inr rfl) (hs : swapsWith e (some (.Name x pos')) pos.line X.env = pure false := by rfl) (hf : X.fn x = true ∨ X.env.scope.names.lookup x = some .local := by first | exact .inl rfl | exact .inr rfl | assumption) :
    PS X (.Assign [.Name x pos'] e pos) (tAsg te (gName i)) := ps_set hN hi hx he hs hf
section
variable {K : PySem.W.Frag} {H : Hp} {Q : VK} {p : Addr} {xs : List V} {i j : Int}
theorem mulL_rd (h1 : -18446744073709551616 < i) (h2 : i < 18446744073709551616) (q : Q (.int (i * j)) H) : rMulI i j H Q := mul_rd (.of_left (intBits_le_64 (by simpa using h1) (by simpa using h2))) q
theorem mulR_rd (h1 : -18446744073709551616 < j) (h2 : j < 18446744073709551616) (q : Q (.int (i * j)) H) : rMulI i j H Q := mul_rd (.of_right (intBits_le_64 (by simpa using h1) (by simpa using h2))) q
/-- a remainder, by its bounds alone -/
theorem modG_rd (h : 0 < j) (q : ∀ r : Int, 0 ≤ r → r < j → Q (.int r) H) : rModI i j H Q := mod_rd h (q _ (Int.emod_nonneg _ (by omega)) (Int.emod_lt_of_pos _ h))
/-- an item at a drawn place -/
theorem ixAny_rd (h : H p = some (.lst xs)) (h0 : 0 ≤ i) (h1 : i < xs.length) (q : ∀ v, v ∈ xs → Q v H) : rIxA K p i H Q := by
  have hl : i.toNat < xs.length := by omega
  refine ixL_rd h (v := xs[i.toNat]) ?_ (q _ (List.getElem_mem hl))
  have e : ((i.toNat : Nat) : Int) = i := by omega
  have z := atI_nat (List.getElem?_eq_getElem hl)
  rw [e] at z
  exact z
theorem hu40 {A : Around} {k : Nat} (hr : Room k A) : A.units + 40 < cLine := by have := hr.units; omega
end
/-! ### a word between two statements -/
/-! the script's numbers -/
end
end L2

set_option Elab.async false
set_option linter.all false
set_option maxRecDepth 100000
set_option maxHeartbeats 2000000
namespace L2
open PySem PySem.Spec PyProof.Rows
/-! ### comprehensions -/
theorem closure_go {env : Env} : ∀ (names : List (Str × NameKind)) (acc : List (Str × Addr)), (∀ x ∈ names, x.2 = .free → ∃ c, env.cells.lookup x.1 = some c) →
    ∃ acc', (forIn (m := Sem) names acc (fun (x : Str × NameKind) (r : List (Str × Addr)) => if (x.2 == .free) = true then (do let c ← cellOf env x.1; pure (ForInStep.yield ((x.1, c) :: r))) else pure (ForInStep.yield r))) = pure acc' ∧
      (∀ x c, acc'.lookup x = some c → acc.lookup x = some c ∨ env.cells.lookup x = some c) ∧ (∀ x c, acc.lookup x = some c → ∃ c', acc'.lookup x = some c') ∧ ∀ x ∈ names, x.2 = .free → ∃ c, acc'.lookup x.1 = some c
  | [], acc, _ => ⟨acc, rfl, fun _ _ h => .inl h, fun _ c h => ⟨c, h⟩, fun _ h => by cases h⟩
  | (n, k) :: r, acc, h => by
    by_cases hk : k = .free
    · subst hk
      obtain ⟨c, hc⟩ := h (n, .free) List.mem_cons_self rfl
      obtain ⟨acc', e, h1, h2, h3⟩ := closure_go r ((n, c) :: acc) fun x hx => h x (List.mem_cons_of_mem _ hx)
      have hco : cellOf env n = pure c := by unfold cellOf; rw [hc]
      refine ⟨acc', ?_, fun x d hd => ?_, fun x d hd => ?_, fun x hx hf => ?_⟩
      · rw [List.forIn_cons]
        simp only [hco]
        exact e
      · rcases h1 x d hd with q | q
        · rw [List.lookup_cons] at q
          split at q
          · rename_i hx
            have hx : x = n := by simpa using hx
            subst hx
            cases q
            exact .inr hc
          · exact .inl q
        · exact .inr q
      · by_cases hx : x = n
        · subst hx
          exact h2 x c (by simp [List.lookup_cons])
        · refine h2 x d ?_
          rw [List.lookup_cons]
          have : (x == n) = false := by simpa using hx
          rw [this]; exact hd
      · rcases List.mem_cons.mp hx with rfl | hx
        · exact h2 n c (by simp [List.lookup_cons])
        · exact h3 x hx hf
    · obtain ⟨acc', e, h1, h2, h3⟩ := closure_go r acc fun x hx => h x (List.mem_cons_of_mem _ hx)
      refine ⟨acc', ?_, h1, h2, fun x hx hf => ?_⟩
      · rw [List.forIn_cons]
        have : (k == NameKind.free) = false := by simpa using hk
        simp only [this]
        exact e
      · rcases List.mem_cons.mp hx with rfl | hx
        · exact absurd hf hk
        · exact h3 x hx hf
theorem closure_ok {scope : Scope} {env : Env} (h : ∀ x ∈ scope.names, x.2 = .free → ∃ c, env.cells.lookup x.1 = some c) :
    ∃ cl, closureFor scope env = pure cl ∧ (∀ x c, cl.lookup x = some c → env.cells.lookup x = some c) ∧ ∀ x ∈ scope.names, x.2 = .free → ∃ c, cl.lookup x.1 = some c := by
  obtain ⟨cl, e, h1, _, h3⟩ := closure_go (env := env) scope.names [] h
  refine ⟨cl, ?_, fun x c hc => (h1 x c hc).elim (fun q => by cases q) id, h3⟩
  unfold closureFor
  show (forIn (m := Sem) scope.names ([] : List (Str × Addr)) _ >>= fun r => pure r) = _
  rw [e]
  rfl
theorem relabel_free {env : Env} : ∀ {names : List (Str × NameKind)} {x : Str}, names.lookup x = some .free →
    (names.map fun (n, k) => if (k == NameKind.free && env.scope.kind == .function && env.kindOf n == some .cell) then (n, NameKind.cell) else (n, k)).lookup x = some .cell ∨
    (names.map fun (n, k) => if (k == NameKind.free && env.scope.kind == .function && env.kindOf n == some .cell) then (n, NameKind.cell) else (n, k)).lookup x = some .free
  | [], _, h => by simp at h
  | (n, k) :: r, x, h => by
    have ih := @relabel_free env r x
    show List.lookup x ((if (k == NameKind.free && env.scope.kind == .function && env.kindOf n == some .cell) = true then (n, NameKind.cell) else (n, k)) :: _) = _ ∨ List.lookup x ((if (k == NameKind.free && env.scope.kind == .function && env.kindOf n == some .cell) = true then (n, NameKind.cell) else (n, k)) :: _) = _
    cases hx : x == n with
    | true =>
      simp only [List.lookup_cons, hx] at h
      cases h
      by_cases hc : (NameKind.free == NameKind.free && env.scope.kind == .function && env.kindOf n == some .cell) = true
      · left; rw [if_pos hc]; simp only [List.lookup_cons, hx]
      · right; rw [if_neg hc]; simp only [List.lookup_cons, hx]
    | false =>
      simp only [List.lookup_cons, hx] at h
      by_cases hc : (k == NameKind.free && env.scope.kind == .function && env.kindOf n == some .cell) = true
      · rw [if_pos hc]; simp only [List.lookup_cons, hx]; exact ih h
      · rw [if_neg hc]; simp only [List.lookup_cons, hx]; exact ih h
/-- what a name's kind in the block says of the written scope -/
theorem relabel_kind {env : Env} : ∀ {names : List (Str × NameKind)} {x : Str} {k' : NameKind}, (∀ y ∈ names, y.2 ≠ .cell) → (k' = .cell ∨ k' = .free) →
    (names.map fun (n, k) => if (k == NameKind.free && env.scope.kind == .function && env.kindOf n == some .cell) then (n, NameKind.cell) else (n, k)).lookup x = some k' → ∃ y ∈ names, y.1 = x ∧ y.2 = .free
  | [], _, _, _, _, h => by simp at h
  | (n, k) :: r, x, k', hn, hk, h => by
    have ih := @relabel_kind env r x k' (fun y hy => hn y (List.mem_cons_of_mem _ hy)) hk
    replace h : List.lookup x ((if (k == NameKind.free && env.scope.kind == .function && env.kindOf n == some .cell) = true then (n, NameKind.cell) else (n, k)) :: List.map (fun (n, k) => if (k == NameKind.free && env.scope.kind == .function && env.kindOf n == some .cell) then (n, NameKind.cell) else (n, k)) r) = some k' := h
    cases hx : x == n with
    | true =>
      have hx' : x = n := by simpa using hx
      by_cases hf : k = .free
      · exact ⟨(n, k), List.mem_cons_self, hx'.symm, hf⟩
      · have hc : ¬ (k == NameKind.free && env.scope.kind == .function && env.kindOf n == some .cell) = true := by
          have : (k == NameKind.free) = false := by simpa using hf
          rw [this]; simp
        rw [if_neg hc] at h
        simp only [List.lookup_cons, hx] at h
        have : k = k' := Option.some.inj h
        subst this
        rcases hk with hk | hk
        · exact absurd hk (hn (n, k) List.mem_cons_self)
        · exact absurd hk hf
    | false =>
      have h' : List.lookup x (List.map (fun (n, k) => if (k == NameKind.free && env.scope.kind == .function && env.kindOf n == some .cell) then (n, NameKind.cell) else (n, k)) r) = some k' := by
        by_cases hc : (k == NameKind.free && env.scope.kind == .function && env.kindOf n == some .cell) = true
        · rw [if_pos hc] at h; simp only [List.lookup_cons, hx] at h; exact h
        · rw [if_neg hc] at h; simp only [List.lookup_cons, hx] at h; exact h
      obtain ⟨y, hy, h1, h2⟩ := ih h'
      exact ⟨y, List.mem_cons_of_mem _ hy, h1, h2⟩

/-- the context of a comprehension's block -/
def blk (X : Cx) (N : List Str) (scope : Scope) (cl : List (Str × Addr)) (C : Addr) (s3 : Shared) (H3 : Hp) (fp : List Addr) : Cx :=
  { X with N := N, s₀ := s3, H₀ := H3, env := compEnvC scope cl C X.env, outer := X.stack, ex := fp, fn := fun _ => false, pn := [], xe := fun _ _ => False }
def PTs (X : Cx) (ifs : List Expr) (t : TT) : Prop :=
  ∀ (pins : List (Addr × Obj)) (s : Shared) (σ : St) (H : Hp) (Q : Bool → Hp → Prop), Inv X pins σ H s → t σ H Q →
    wpAny (model X.prog X.w) X.A (forIn ifs true fun c r => if r = true then do let ok ← isTrue c X.env (eval c X.env); pure (ForInStep.yield ok) else pure (ForInStep.yield r)) (TP X pins σ Q) X.xe s
theorem pts_nil {X : Cx} : PTs X [] (fun _ H Q => Q true H) := fun _ _ _ H _ I h => wpAny_tests_nil ⟨H, I, h⟩
theorem pts_one {X : Cx} {c : Expr} {t : TT} (h : PT X c t) : PTs X [c] t := fun pins s σ H Q I hq => wpAny_tests_one (h pins s σ H Q I hq)
/-- one turn after another: the list so far -/
@[irreducible] def cPut (W : Nat → Nat → List V → St → Hp → Prop) (acc : Addr) (ys : List V) (i m : Nat) (σ2 : St) (v : V) (H5 : Hp) : Prop :=
  H5 acc = some (.lst ys) ∧ ∀ H6, Chg acc H5 H6 → H6 acc = some (.lst (ys ++ [v])) → ∃ m', m' < m ∧ W (i + 1) m' (ys ++ [v]) σ2 H6
@[irreducible] def cSkip (W : Nat → Nat → List V → St → Hp → Prop) (ys : List V) (i m : Nat) (σ2 : St) (H4 : Hp) : Prop := ∃ m', m' < m ∧ W (i + 1) m' ys σ2 H4
@[irreducible] def compW (J : It) (g : TG) (tt : TT) (te : TE) (σ0 : St) (H1 : Hp) (Q : VK) : Prop :=
  ∀ acc H2, H1 acc = none → Same H1 H2 → H2 acc = some (.lst []) → ∃ W : Nat → Nat → List V → St → Hp → Prop, (∃ m, W 0 m [] σ0 H2) ∧ ∀ i m ys σ H, W i m ys σ H → H acc = some (.lst ys) ∧ ys.length < sizeLine ∧
    ((J.stop i H ∧ Q (.ref acc) H) ∨ (J.go i H ∧ ∀ x H', J.yld i H x H' → g x σ H' fun σ2 H3 => tt σ2 H3 fun b H4 =>
      br b (te σ2 H4 fun v H5 => cPut W acc ys i m σ2 v H5) (cSkip W ys i m σ2 H4)))
section
variable {X : Cx} {pins : List (Addr × Obj)} {σ : St} {H : Hp} {s2 : Shared}
theorem blk_inv {N : List Str} {scope : Scope} {cl : List (Str × Addr)} {C : Addr} {s3 s4 : Shared} {H3 : Hp} {fp : List Addr} {σc : St} (I : Inv X pins σ H3 s3)
    (hcl1 : ∀ x c, cl.lookup x = some c → X.env.cells.lookup x = some c) (hcl2 : ∀ x ∈ scope.names, x.2 = .free → ∃ c, cl.lookup x.1 = some c) (hkind : scope.kind = .function) (hcell : ∀ y ∈ scope.names, y.2 ≠ .cell)
    (hcap : ∀ (i : Nat) (x : Str) (v : V), N[i]? = some x → σc[i]? = some (some v) → ∃ j : Nat, X.N[j]? = some x ∧ σ[j]? = some (some v) ∧ scope.names.lookup x = some .free ∧ (X.env.kindOf x = some .cell ∨ X.env.kindOf x = some .free))
    (hlen : σc.length = N.length) (hC : s3.heap.objs.size = C) (hfp : ∀ b ∈ fp, FpOk X pins H3 b) (hfpl : ∀ b ∈ fp, b < C) (hex : ∀ b o, X.base.get? b = some o → b ∉ fp) (hns : ∃ m, s4.heap.Ns C m) (hk : ∀ b o, s3.heap.get? b = some o → s4.heap.get? b = some o) (h4 : s4.os = s3.os) (h5 : s4.gens = s3.gens) :
    Inv (blk X N scope cl C s3 H3 fp) [] σc H3 s4 := by
  subst hC
  have look : ∀ x, (blk X N scope cl s3.heap.objs.size s3 H3 fp).env.kindOf x = (relabel scope X.env).names.lookup x := fun x => rfl
  have cne : ∀ x c, cl.lookup x = some c → c < s3.heap.objs.size := fun x c h => by
    obtain ⟨v, o, ho, _⟩ := I.cell x c (hcl1 x c h)
    exact Heap.lt_size ho
  refine ⟨⟨I.ok.mod, ?_, I.ok.glob, I.ok.blt, Nat.le_refl _, fun x y c h1 h2 => I.ok.inj x y c (hcl1 _ _ h1) (hcl1 _ _ h2), fun x hx => ?_, fun x c h => ?_, I.ok.hd, I.ok.frames, .inl rfl, fun b hb => ⟨Nat.ne_of_lt (hfpl b hb), fun x c h => ?_⟩, fun b o e => I.bs b o e, Nat.le_trans I.ok.bsz I.sz, fun b o e => hex b o e, fun b hb => ?_, I.stack, I.stkFree⟩,
    h4, by rw [h5]; exact I.bare, Un.kept hk, ?_, fun x c h => ?_, I.hok.fresh (Nat.le_refl _), fun x c h => I.freeC x c (hcl1 _ _ h), fun p hp => (by cases hp), I.hok.kept hk, hlen⟩
  · exact hkind
  · have hx' : (relabel scope X.env).names.lookup x = some .cell ∨ (relabel scope X.env).names.lookup x = some .free := hx
    have hz : ∃ y ∈ scope.names, y.1 = x ∧ y.2 = .free := by
      rcases hx' with q | q
      · exact relabel_kind hcell (.inl rfl) q
      · exact relabel_kind hcell (.inr rfl) q
    obtain ⟨y, hy, rfl, hf⟩ := hz
    exact hcl2 y hy hf
  · exact absurd (show false = true from h) Bool.false_ne_true
  · exact (hfp b hb).2.2.2.2.1 x c (hcl1 x c h)
  · have := (hfp b hb).1
    intro hz
    obtain ⟨f0, f1, f2, _⟩ := hfp b hb
    have hz : b ∈ frs X.stack := hz
    rcases List.mem_cons.mp (I.stkSub b hz) with q | q
    · exact f1 q
    · exact f2 q
  · obtain ⟨m, hm⟩ := hns
    refine ⟨m, hm, fun i x v h1 h2 h3 => ?_⟩
    obtain ⟨j, e1, e2, e3, e4⟩ := hcap i x v h1 h2
    obtain ⟨mX, _, hl⟩ := I.loc
    obtain ⟨u, r, q⟩ := hl j x v e1 e2 (by rcases e4 with e4 | e4; exact .inr (.inl e4); exact .inr (.inr e4))
    refine ⟨u, r, .inr ⟨relabel_free e3, ?_⟩⟩
    obtain ⟨c, hc⟩ := hcl2 (x, .free) (PySem.mem_of_lookup e3) rfl
    refine ⟨c, hc, ?_⟩
    have hc' := hcl1 x c hc
    rcases q with ⟨k, _⟩ | ⟨_, c2, e5, o, ho, hd⟩
    · rcases e4 with e4 | e4 <;> rw [e4] at k <;> cases k
    · rw [hc'] at e5
      cases e5
      exact ⟨o, hk _ _ ho, hd⟩
  · obtain ⟨v, o, ho, hd⟩ := I.cell x c (hcl1 x c h)
    exact ⟨v, o, hk _ _ ho, hd⟩
theorem comp_loop {prog : Program} {w : World} {A : Around} {R : Result → Shared → Prop} {s : Shared} {elt target iter : Expr} {ifs : List Expr} {scope : Scope} {pos : Pos} {it acc : Value} {env : Env} (I : Nat → Shared → Prop)
    (turn : ∀ n s, I n s → wpAny (model prog w) A (pyNext it) (fun r s₁ => match r with
      | none => R (.ok .next) s₁
      | some v => wpAny (model prog w) A (letOwnedTupleGo target it v) (fun _ s₁' => wpAny (model prog w) A (assign target env v) (fun _ s₂ =>
          wpAny (model prog w) A (forIn ifs true fun c r => if r = true then do let ok ← isTrue c env (eval c env); pure (ForInStep.yield ok) else pure (ForInStep.yield r)) (fun ok s₃ =>
            if ok = true then wpAny (model prog w) A (eval elt env) (fun x s₄ =>
              wpAny (model prog w) A (call (.builtin "list.append") [acc, x]) (fun _ s₅ => ∃ m, m < n ∧ I m s₅) (fun _ _ => False) s₄) (fun _ _ => False) s₃
            else ∃ m, m < n ∧ I m s₃) (fun _ _ => False) s₂) (fun _ _ => False) s₁') (fun _ _ => False) s₁) (fun _ _ => False) s)
    (n : Nat) (h : I n s) : codeAny (model prog w) A (.compLoop (.ListComp elt [⟨target, iter, ifs, 0⟩] scope pos) 0 it acc env) R s := by
  refine codeAny_loop rfl I (fun n s hI => ?_) n h
  show wpAny _ A ((compTurn (.ListComp elt [⟨target, iter, ifs, 0⟩] scope pos) 0 it acc env).onRaise (fun x => do noteFrame x env; theTreesLotGoes x)) _ _ s
  refine wpAny_noted ?_
  rw [compTurn_list]
  refine wpAny_bind (wpAny_standAt (wpAny_bind (wpAny_mono (turn n s hI) (fun r s₁ h₁ => ?_) fun _ _ h' => h'.elim)))
  cases r with
  | none => exact wpAny_pure h₁
  | some v =>
    refine wpAny_bind (wpAny_mono h₁ (fun _ s₁' h₁' => ?_) fun _ _ h' => h'.elim)
    refine wpAny_bind (wpAny_mono h₁' (fun _ s₂ h₂ => wpAny_bind (wpAny_mono h₂ (fun ok s₃ h₃ => ?_) fun _ _ h' => h'.elim)) fun _ _ h' => h'.elim)
    cases ok with
    | false => exact wpAny_pure ⟨rfl, h₃⟩
    | true =>
      exact wpAny_bind (wpAny_bind (wpAny_mono h₃ (fun x s₄ h₄ => wpAny_bind (wpAny_mono h₄ (fun _ s₅ h₅ => wpAny_pure (wpAny_pure ⟨rfl, h₅⟩)) fun _ _ h' => h'.elim)) fun _ _ h' => h'.elim))

theorem comp_core {E : Value → Shared → Prop} {elt tg iter : Expr} {ifs : List Expr} {scope : Scope} {pos : Pos} {cl : List (Str × Addr)} {N : List Str} {σc : St} {J : It} {fp : List Addr} {it : Addr} {tn : Nat → Heap → Prop} {g : TG} {tt : TT} {te : TE} {Q : VK}
    {RR : Value → Addr → Result → Shared → Prop}
    (hcl1 : ∀ x c, cl.lookup x = some c → X.env.cells.lookup x = some c) (hcl2 : ∀ x ∈ scope.names, x.2 = .free → ∃ c, cl.lookup x.1 = some c) (hkind : scope.kind = .function) (hcell : ∀ y ∈ scope.names, y.2 ≠ .cell)
    (hcap : ∀ (i : Nat) (x : Str) (v : V), N[i]? = some x → σc[i]? = some (some v) → ∃ j : Nat, X.N[j]? = some x ∧ σ[j]? = some (some v) ∧ scope.names.lookup x = some .free ∧ (X.env.kindOf x = some .cell ∨ X.env.kindOf x = some .free))
    (hlen : σc.length = N.length) (hc : X.calm = true) (I : Inv X pins σ H s2) (T : Turn X.prog X.w X.K tg J fp it tn) (st : tn 0 s2.heap) (fpok : ∀ b ∈ fp, FpOk X pins H b)
    (hg : ∀ C s3 H3 fp, PG (blk X N scope cl C s3 H3 fp) tg g) (ht : ∀ C s3 H3 fp, PTs (blk X N scope cl C s3 H3 fp) ifs tt) (he : ∀ C s3 H3 fp, PE (blk X N scope cl C s3 H3 fp) elt te)
    (h : compW J g tt te σc H Q)
    (hRR : ∀ (acc C : Addr) (H' : Hp) (s' : Shared), Inv X pins σ H' s' → FpOk X pins H' C → (∃ m, s'.heap.Ns C m) → Q (.ref acc) H' → RR (.ref acc) C (.ok .next) s') :
    wpAny (model X.prog X.w) X.A (newList []) (fun acc s₃ => wpAny (model X.prog X.w) X.A (newFunctionEnv scope X.env.globals cl [] X.env.qual none .none (some X.env)) (fun cenv s₄ =>
      codeAny (model X.prog X.w) X.A (.compStart (.ListComp elt [⟨tg, iter, ifs, 0⟩] scope pos) 0 (.ref it) acc { cenv with scope := relabel scope X.env }) (RR acc cenv.locals) s₄) E s₃) E s2 := by
  refine wpAny_newObj_type (wpAny_newFunctionEnv hcell (by intro y hy; simp at hy) (fun h₁ hns₁ hsb₁ => ?_) hkind)
  dsimp only at hns₁ hsb₁ ⊢
  have hf : H s2.heap.objs.size = none := I.fresh
  have I3 : Inv X pins σ (upd H s2.heap.objs.size (.lst [])) { s2 with heap := s2.heap.push { cls := .type "list", data := .seq ([] : List Value).toArray } } := I.lnew (t' := s2.toks) (its := []) .nil (Nat.zero_le _)
  generalize hs3 : ({ s2 with heap := s2.heap.push { cls := .type "list", data := .seq ([] : List Value).toArray } } : Shared) = s3 at I3
  have hH : s2.heap.push { cls := .type "list", dict := none, data := .seq ([] : List Value).toArray } = s3.heap := by rw [← hs3]
  rw [hH] at hns₁ hsb₁ ⊢
  have hsz : s3.heap.objs.size = s2.heap.objs.size + 1 := by rw [← hH, Heap.size_push]
  have old23 : ∀ b o, s2.heap.get? b = some o → s3.heap.get? b = some o := fun b o e => by rw [← hH]; exact Heap.get?_push_of_some _ e
  have fplt : ∀ b ∈ fp, b < s2.heap.objs.size := fun b hb => by
    obtain ⟨o, e, _⟩ := T.obj 0 _ st b hb
    exact Heap.lt_size e
  have fp3 : ∀ b ∈ fp, FpOk X pins (upd H s2.heap.objs.size (.lst [])) b := fun b hb => by
    obtain ⟨f0, f1⟩ := fpok b hb
    refine ⟨?_, f1⟩
    rw [upd_ne (Nat.ne_of_lt (fplt b hb))]
    exact f0
  have old34 : ∀ b o, s3.heap.get? b = some o → h₁.get? b = some o := fun b o e => hsb₁.extBut b o (Nat.ne_of_lt (Heap.lt_size e)) (Heap.get?_push_of_some _ e)
  have nob : ∀ b o, X.base.get? b = some o → b ∉ fp := fun b o e hb => by
    obtain ⟨_, _, _, f3, _, _⟩ := fpok b hb
    rcases f3 with f3 | f3
    · exact I.ok.noex b o e f3
    · exact absurd (Nat.lt_of_lt_of_le (Heap.lt_size e) I.ok.bsz) (Nat.not_lt.mpr f3)
  have hs4e : ({ s2 with heap := h₁, toks := s2.toks + ([] : List (Str × Value)).length } : Shared).os = s3.os := by rw [← hs3]
  have hs4g : ({ s2 with heap := h₁, toks := s2.toks + ([] : List (Str × Value)).length } : Shared).gens = s3.gens := by rw [← hs3]
  have I4 : Inv (blk X N scope cl s3.heap.objs.size s3 (upd H s2.heap.objs.size (.lst [])) fp) [] σc (upd H s2.heap.objs.size (.lst [])) { s2 with heap := h₁, toks := s2.toks + ([] : List (Str × Value)).length } :=
    blk_inv (s4 := { s2 with heap := h₁, toks := s2.toks + ([] : List (Str × Value)).length }) I3 hcl1 hcl2 hkind hcell hcap hlen rfl fp3 (fun b hb => Nat.lt_of_lt_of_le (fplt b hb) (by rw [hsz]; exact Nat.le_succ _)) nob ⟨_, hns₁⟩ old34 hs4e hs4g
  have st4 : tn 0 h₁ := T.keep _ _ _ st fun b hb o e => old34 b o (old23 b o e)
  unfold compW at h
  obtain ⟨W, ⟨m0, w0⟩, turn⟩ := h s2.heap.objs.size _ hf (Same.upd hf) upd_same
  have loop : codeAny (model X.prog X.w) X.A (.compLoop (.ListComp elt [⟨tg, iter, ifs, 0⟩] scope pos) 0 (.ref it) (.ref s2.heap.objs.size) (blk X N scope cl s3.heap.objs.size s3 (upd H s2.heap.objs.size (.lst [])) fp).env)
      (RR (.ref s2.heap.objs.size) s3.heap.objs.size) { s2 with heap := h₁, toks := s2.toks + ([] : List (Str × Value)).length } := by
    refine comp_loop (fun n s' => ∃ i ys σ' H', Inv (blk X N scope cl s3.heap.objs.size s3 (upd H s2.heap.objs.size (.lst [])) fp) [] σ' H' s' ∧ tn i s'.heap ∧ (∀ b ∈ fp, H' b = none) ∧ W i n ys σ' H') ?_ m0 ⟨0, [], σc, _, I4, st4, fun b hb => (fp3 b hb).1, w0⟩
    rintro n s5 ⟨i, ys, σ5, H5, I5, st5, fr5, w5⟩
    obtain ⟨hacc, hl5, hcase⟩ := turn i n ys σ5 H5 w5
    have stat : ∀ {H' : Hp}, (∀ b ∈ fp, H' b = none) → ∀ b ∈ fp, FpOk (blk X N scope cl s3.heap.objs.size s3 (upd H s2.heap.objs.size (.lst [])) fp) [] H' b := fun hn b hb => by
      obtain ⟨_, f1, f2, f3, f4, _⟩ := fpok b hb
      refine ⟨hn b hb, Nat.ne_of_lt (Nat.lt_of_lt_of_le (fplt b hb) (by rw [hsz]; exact Nat.le_succ _)), fun hz => ?_, .inl hb, fun x c hx => f4 x c (hcl1 x c hx), fun p hp => by cases hp⟩
      rcases List.mem_cons.mp (I.stkSub b hz) with q | q
      · exact f1 q
      · exact f2 q
    rcases hcase with ⟨stop, hq⟩ | ⟨go, step⟩
    · refine thn (T.done (blk X N scope cl s3.heap.objs.size s3 (upd H s2.heap.objs.size (.lst [])) fp) rfl rfl rfl hc i [] s5 σ5 H5 (fun _ _ => False) I5 (stat fr5) st5 stop) fun r s6 ⟨hr, I6⟩ => ?_
      subst hr
      have u1 : Un (frs X.stack) fp H (upd H s2.heap.objs.size (.lst [])) s2.heap s3.heap := Un.laid old23 (Nat.le_refl _) hf
      have u2 : Un (frs X.stack) fp (upd H s2.heap.objs.size (.lst [])) H5 s3.heap s6.heap := I6.base
      have hC : H5 s3.heap.objs.size = none := I6.free
      obtain ⟨m6, hm6, _⟩ := I6.loc
      have hos : s6.os = s2.os := by rw [I6.os]; show s3.os = s2.os; rw [← hs3]
      have hok6 := I6.hok
      have bare6 := I6.bare
      obtain ⟨hh, gg, dd, tt', os'⟩ := s6
      obtain rfl : os' = s2.os := hos
      exact hRR _ _ H5 _ (I.call (h' := hh) (g' := gg) (d' := dd) (t' := tt') (ch := fp) (u1.trans u2) hok6 bare6 fun b hb => ⟨(fpok b hb).2.2.2.1, (fpok b hb).2.1, (fpok b hb).2.2.2.2.1, (fpok b hb).2.2.2.2.2⟩)
        (I.fpOk (by rw [hsz]; exact Nat.le_succ _) hC) ⟨m6, hm6⟩ hq
    · refine thn (T.item (blk X N scope cl s3.heap.objs.size s3 (upd H s2.heap.objs.size (.lst [])) fp) rfl rfl rfl hc i [] s5 σ5 H5 (fun _ _ => False) I5 (stat fr5) st5 go) fun r s6 ⟨u, hr, h6⟩ => ?_
      subst hr
      refine thn h6 fun _ s7 ⟨x, H7, I7, r7, y7, st7, fr7⟩ => ?_
      have I7' := I7.pinned (stat fr7) (T.obj _ _ st7)
      refine thn (hg _ _ _ _ _ s7 σ5 H7 x u _ I7' r7 (step x H7 y7)) fun _ s8 ⟨σ8, H8, I8, q8⟩ => ?_
      refine thn (ht _ _ _ _ _ s8 σ8 H8 _ I8 q8) fun ok s9 ⟨H9, I9, q9⟩ => ?_
      have again : ∀ {s10 : Shared} {σ10 : St} {H10 : Hp} {zs : List V}, Inv (blk X N scope cl s3.heap.objs.size s3 (upd H s2.heap.objs.size (.lst [])) fp) ([] ++ pinsAt fp s7.heap) σ10 H10 s10 → (∃ m', m' < n ∧ W (i + 1) m' zs σ10 H10) →
          ∃ m, m < n ∧ ∃ i ys σ' H', Inv (blk X N scope cl s3.heap.objs.size s3 (upd H s2.heap.objs.size (.lst [])) fp) [] σ' H' s10 ∧ tn i s10.heap ∧ (∀ b ∈ fp, H' b = none) ∧ W i m ys σ' H' := fun {s10 σ10 H10 zs} I10 ⟨m', hm, w10⟩ => by
        refine ⟨m', hm, i + 1, zs, σ10, H10, I10.unpinned, T.keep _ _ _ st7 fun b hb o e => (I10.pin (b, o) (List.mem_append_right _ (List.mem_append_right _ (mem_pinsAt hb e)))).1, fun b hb => ?_, w10⟩
        obtain ⟨o, e, d⟩ := T.obj _ _ st7 b hb
        exact (I10.pin (b, o) (List.mem_append_right _ (List.mem_append_right _ (mem_pinsAt hb e)))).2.1
      dsimp only at q9
      rw [br_iff] at q9
      cases ok with
      | false =>
        have q9 : ∃ m', m' < n ∧ W (i + 1) m' ys σ8 H9 := by rw [if_neg Bool.false_ne_true] at q9; unfold cSkip at q9; exact q9
        exact again I9 q9
      | true =>
        have q9 := (if_pos rfl ▸ q9 : te σ8 H9 _)
        refine thn (he _ _ _ _ _ s9 σ8 H9 _ I9 q9) fun v s10 ⟨y, H10, I10, r10, q10⟩ => ?_
        unfold cPut at q10
        obtain ⟨e10, q10⟩ := q10
        refine thn (mt_append _ s10 σ8 H10 (.ref s2.heap.objs.size) [y] (.ref s2.heap.objs.size) [v] (fun _ H11 => ∃ m', m' < n ∧ W (i + 1) m' (ys ++ [y]) σ8 H11) I10 rfl (.cons r10 .nil) ⟨_, ys, y, rfl, rfl, e10, hl5, q10 _ Chg.upd upd_same⟩) fun _ s11 ⟨z, H11, I11, _, q11⟩ => ?_
        exact again I11 q11
  exact codeAny_compStart_list loop (T.self _ 0 _ _ _ st4 loop)
/-- what the block sees of the frame: by slots -/
def capS (ks : List (Option Nat)) (σ : St) : St := ks.map fun k => match k with
  | none => none
  | some j => (σ[j]?).join
inductive CapOk (X : Cx) (scope : Scope) : List Str → List (Option Nat) → Prop where
  | nil : CapOk X scope [] []
  | skip {x : Str} {N : List Str} {ks : List (Option Nat)} (t : CapOk X scope N ks) : CapOk X scope (x :: N) (none :: ks)
  | take {x : Str} {N : List Str} {ks : List (Option Nat)} {j : Nat} (h1 : X.N[j]? = some x) (h2 : scope.names.lookup x = some .free) (h3 : X.env.kindOf x = some .cell ∨ X.env.kindOf x = some .free) (t : CapOk X scope N ks) : CapOk X scope (x :: N) (some j :: ks)
theorem CapOk.cap {scope : Scope} {N : List Str} {ks : List (Option Nat)} (h : CapOk X scope N ks) (σ : St) : ∀ (i : Nat) (x : Str) (v : V), N[i]? = some x → (capS ks σ)[i]? = some (some v) → ∃ j : Nat, X.N[j]? = some x ∧ σ[j]? = some (some v) ∧ scope.names.lookup x = some .free ∧ (X.env.kindOf x = some .cell ∨ X.env.kindOf x = some .free) := by
  induction h with
  | nil => intro i x v h; simp at h
  | skip t ih =>
    intro i x v h1 h2
    cases i with
    | zero => simp [capS] at h2
    | succ i => exact ih i x v (by simpa using h1) (by simpa [capS] using h2)
  | take a b c t ih =>
    intro i x v h1 h2
    cases i with
    | zero =>
      simp only [List.getElem?_cons_zero, Option.some.injEq] at h1
      subst h1
      refine ⟨_, a, ?_, b, c⟩
      simpa [capS, Option.join_eq_some_iff] using h2
    | succ i => exact ih i x v (by simpa using h1) (by simpa [capS] using h2)
theorem CapOk.len {scope : Scope} {N : List Str} {ks : List (Option Nat)} (h : CapOk X scope N ks) (σ : St) : (capS ks σ).length = N.length := by
  have : ks.length = N.length := by
    induction h with
    | nil => rfl
    | skip t ih => simp [ih]
    | take a b c t ih => simp [ih]
  simp [capS, this]
def qComp (ks : List (Option Nat)) (wi : TI) (g : TG) (tt : TT) (te : TE) : TE := fun σ H Q => wi σ H fun J H1 => compW J g tt te (capS ks σ) H1 Q
def freeB (scope : Scope) (f : Str → Option NameKind) : Bool := scope.names.all fun x => x.2 != .free || (f x.1 == some .cell || f x.1 == some .free)
def scopeB (scope : Scope) : Bool := scope.names.all (fun x => x.2 != .cell) && scope.names.all fun x => x.2 != .local || scope.names.lookup x.1 == some .local
theorem freeB_ok {scope : Scope} {f : Str → Option NameKind} (h : freeB scope f = true) : ∀ x ∈ scope.names, x.2 = .free → f x.1 = some .cell ∨ f x.1 = some .free := fun x hx hf => by
  have := List.all_eq_true.mp h x hx
  simpa [hf] using this
theorem scopeB_ok {scope : Scope} (h : scopeB scope = true) : (∀ y ∈ scope.names, y.2 ≠ .cell) ∧ ∀ x ∈ scope.names, x.2 = .local → scope.names.lookup x.1 = some .local := by
  unfold scopeB at h
  rw [Bool.and_eq_true] at h
  refine ⟨fun y hy => ?_, fun x hx hl => ?_⟩
  · have := List.all_eq_true.mp h.1 y hy
    simpa using this
  · have := List.all_eq_true.mp h.2 x hx
    simpa [hl] using this
theorem peComp {elt tg iter : Expr} {ifs : List Expr} {scope : Scope} {pos : Pos} {N : List Str} {ks : List (Option Nat)} {wi : TI} {g : TG} {tt : TT} {te : TE} (hi : PI X tg iter wi)
    (hg : ∀ cl C s3 H3 fp, PG (blk X N scope cl C s3 H3 fp) tg g) (ht : ∀ cl C s3 H3 fp, PTs (blk X N scope cl C s3 H3 fp) ifs tt) (he : ∀ cl C s3 H3 fp, PE (blk X N scope cl C s3 H3 fp) elt te) (hcap : CapOk X scope N ks)
    (hc : X.calm = true := by rfl) (hkind : scope.kind = .function := by rfl) (hb : freeB scope X.env.kindOf = true := by rfl) (hn : scopeB scope = true := by rfl) (hs : ∀ x, foldedSetIterable iter X.env x = pure x := by intro _; rfl) :
    PE X (.ListComp elt [⟨tg, iter, ifs, 0⟩] scope pos) (qComp ks wi g tt te) := by
  intro pins s σ H Q I h
  obtain ⟨hcell, hnames⟩ := scopeB_ok hn
  obtain ⟨cl, hcl, hcl1, hcl2⟩ := closure_ok (scope := scope) (env := X.env) fun x hx hf => I.ok.has x.1 (freeB_ok hb x hx hf)
  rw [eval_ListComp]
  refine wpAny_comprehension_free (use := none) rfl hs hcl hkind hnames ?_
  show wpAny _ _ (eval iter X.env) _ _ s
  refine thn (hi pins s σ H _ I h) fun v s1 h1 => thn h1 fun itv s2 h2 => ?_
  obtain ⟨it, fp, tn, J, H2, e, I2, T, st2, f2, q2⟩ := h2
  subst e
  refine comp_core (RR := fun acc C => compPost (model X.prog X.w) X.A X.xe none (EP X pins σ Q) acc C) hcl1 hcl2 hkind hcell (hcap.cap σ) (hcap.len σ) hc I2 T st2 f2 (hg cl) (ht cl) (he cl) q2 ?_
  rintro acc C H' s' I' hC ⟨m, hm⟩ hq
  refine ⟨m, hm, fun h' hsb => ⟨.ref acc, H', ?_, rfl, hq⟩⟩
  exact I'.turned (t' := s'.toks) (fun b o hb e => hsb.extBut b o hb e) hC.1 hC.2.1 hC.2.2.2.1 hC.2.2.2.2.1 hC.2.2.2.2.2
/-- name = [.. for ..], the name a plain local -/
theorem psC {i : Nat} {y : Str} {py spos : Pos} {elt tg iter : Expr} {ifs : List Expr} {scope : Scope} {pos : Pos} {N : List Str} {ks : List (Option Nat)} {wi : TI} {g : TG} {tt : TT} {te : TE} (hN : X.N.Nodup) (hi : PI X tg iter wi)
    (hg : ∀ cl C s3 H3 fp, PG (blk X N scope cl C s3 H3 fp) tg g) (ht : ∀ cl C s3 H3 fp, PTs (blk X N scope cl C s3 H3 fp) ifs tt) (he : ∀ cl C s3 H3 fp, PE (blk X N scope cl C s3 H3 fp) elt te) (hcap : CapOk X scope N ks)
    (hy : X.N[i]? = some y := by rfl) (hl : X.env.scope.names.lookup y = some .local := by rfl) (hsw : swapsWith (.ListComp elt [⟨tg, iter, ifs, 0⟩] scope pos) (some (.Name y py)) spos.line X.env = pure true := by rfl)
    (hc : X.calm = true := by rfl) (hkind : scope.kind = .function := by rfl) (hb : freeB scope X.env.kindOf = true := by rfl) (hn : scopeB scope = true := by rfl) (hs : ∀ x, foldedSetIterable iter X.env x = pure x := by intro _; rfl) :
    PS X (.Assign [.Name y py] (.ListComp elt [⟨tg, iter, ifs, 0⟩] scope pos) spos) (tAsg (qComp ks wi g tt te) (gName i)) := by
  intro pins s σ H D I h
  obtain ⟨hcell, hnames⟩ := scopeB_ok hn
  obtain ⟨cl, hcl, hcl1, hcl2⟩ := closure_ok (scope := scope) (env := X.env) fun x hx hf => I.ok.has x.1 (freeB_ok hb x hx hf)
  rw [exec_Assign_Name_used _ _ _ _ hsw]
  refine wpAny_bind (wpAny_standAt (wpAny_bind ?_))
  show wpAny _ X.A (do let _ ← comprehension (.ListComp elt [⟨tg, iter, ifs, 0⟩] scope pos) scope X.env _ (newList []) false (eval iter X.env) (some (assign (.Name y py) X.env))) _ _ s
  refine wpAny_bind (wpAny_mono (wpAny_comprehension_free (use := some (assign (.Name y py) X.env)) (Q := fun _ s' => SP X pins D .next s') rfl hs hcl hkind hnames ?_) (fun _ s' hq => wpAny_pure (wpAny_pure hq)) fun _ _ e => e)
  refine thn (hi pins s σ H _ I h) fun v s1 h1 => thn h1 fun itv s2 h2 => ?_
  obtain ⟨it, fp, tn, J, H2, e, I2, T, st2, f2, q2⟩ := h2
  subst e
  refine comp_core (RR := fun acc C => compPost (model X.prog X.w) X.A X.xe (some (assign (.Name y py) X.env)) (fun _ s' => SP X pins D .next s') acc C) hcl1 hcl2 hkind hcell (hcap.cap σ) (hcap.len σ) hc I2 T st2 f2 (hg cl) (ht cl) (he cl) q2 ?_
  rintro acc C H' s' I' hC ⟨m, hm⟩ hq
  show wpAny _ _ (assign (.Name y py) X.env (.ref acc)) _ _ _
  refine wpAny_assign_Name (store_ok2 I' hN hy (.inl hl) (v := .ref acc) rfl (fun s'' I'' hsb => ?_) (.inr hl))
  obtain ⟨a, hsb, ha⟩ := hsb
  have hCa : C ≠ a := by
    rcases ha with ha | ha
    · rw [ha]; exact hC.2.1
    · exact (hC.2.2.2.2.1 y a ha).symm
  refine ⟨m, hm.sameBut hsb hCa, fun h' hsb' => ⟨σ.set i (some (.ref acc)), H', ?_, hq⟩⟩
  exact I''.turned (t' := s''.toks) (fun b o hb e => hsb'.extBut b o hb e) hC.1 hC.2.1 hC.2.2.2.1 hC.2.2.2.2.1 hC.2.2.2.2.2
end
/-! ### how a comprehension is read -/
section
variable {K : PySem.W.Frag} {g : TG} {tt : TT} {te : TE} {σ0 : St} {H1 : Hp} {Q : VK}
end
end L2

set_option Elab.async false
set_option linter.all false
set_option maxRecDepth 100000
set_option maxHeartbeats 2000000
namespace L2
open PySem PySem.Spec PyProof.Rows
section
variable {X : Cx}
/-! ### sum, all, list, tuple of what is read -/
@[irreducible] def rSumA (K : PySem.W.Frag) (p : Addr) (H : Hp) (Q : VK) : Prop := ∃ ns : List Int, SqL K H p (ns.map V.int) ∧ Q (.int ns.sum) H
def rSumM (K : PySem.W.Frag) : List V → Hp → VK → Prop := fun xs H Q => match xs with
  | [.ref p] => rSumA K p H Q
  | _ => False
theorem cSum (hc : X.calm = true) : CallR X (.builtin "sum") (rSumM X.K) := fun pins s σ H xs us Q I r h => by
  unfold rSumM at h
  split at h
  · unfold rSumA at h
    obtain ⟨ns, h1, h2⟩ := h
    obtain ⟨u, rfl, rx⟩ := vals1 r
    cases rx
    obtain ⟨its, r', pl, hz⟩ := I.list h1
    have hi := intsAre_of r'
    obtain ⟨ys, hx⟩ := hi.allInts.items
    have hl' : s.heap.IsList _ (intItems ys) := hx ▸ pl.isList
    refine sum_intListG (I.ok.hd hc) hl' fun h' tk t' hk => ?_
    have e1 : ns = ys.toList.map (·.1) := by
      rw [← nums_intItems, ← hx]
      exact (show numsOf its.toArray.toList = ns from hi.numsOf).symm
    have e2 : preSum (numAt ys) ys.size = ns.sum := by
      rw [preSum_eq, List.take_of_length_le (by simp), e1]
    rw [e2]
    exact ⟨.int ns.sum, H, I.kept hk, ⟨_, rfl⟩, h2⟩
  · exact h.elim
theorem sum_rd {K : PySem.W.Frag} {p : Addr} {H : Hp} {Q : VK} {ns : List Int} (h : H p = some (.lst (ns.map V.int))) (q : Q (.int ns.sum) H) : rSumA K p H Q := by unfold rSumA; exact ⟨ns, SqL.of h, q⟩
theorem boolsAre_of : ∀ {bs : List Bool} {us : List Value}, Vals (bs.map V.bl) us → LSm.BoolsAre us bs
  | [], us, r => by rw [List.map_nil] at r; cases r; exact .nil
  | b :: bs, us, r => by
    rw [List.map_cons] at r
    cases r with
    | cons r1 r2 =>
      cases r1
      exact .cons b (boolsAre_of r2)
@[irreducible] def rAllA (K : PySem.W.Frag) (p : Addr) (H : Hp) (Q : VK) : Prop := ∃ bs : List Bool, SqL K H p (bs.map V.bl) ∧ Q (.bl (bs.all id)) H
def rAllM (K : PySem.W.Frag) : List V → Hp → VK → Prop := fun xs H Q => match xs with
  | [.ref p] => rAllA K p H Q
  | _ => False
theorem cAll (hc : X.calm = true) : CallR X (.builtin "all") (rAllM X.K) := fun pins s σ H xs us Q I r h => by
  unfold rAllM at h
  split at h
  · rename_i p
    unfold rAllA at h
    obtain ⟨bs, h1, h2⟩ := h
    obtain ⟨u, rfl, rx⟩ := vals1 r
    cases rx
    obtain ⟨its, r', pl, hz⟩ := I.list h1
    have hb := boolsAre_of r'
    have hlt : p < s.heap.objs.size := by obtain ⟨_, e, _⟩ := pl.isList; exact Heap.lt_size e
    refine call_all_walk (wpAny_pyIter_list pl.isList ?_)
    refine ⟨s.heap.objs.size, [s.heap.objs.size, _], [s.heap.objs.size], its.toArray.size, _, _, fun i => (bs[i]?).getD true, rfl, Walks.list (A := X.A.in1) (I.ok.hd hc) _ _ (Nat.ne_of_lt hlt) its.toArray,
      ⟨⟨_, Heap.get?_push_size _ rfl, rfl, rfl⟩, pl.isList.push _⟩, fun i v s' Q' E' hP hQ => ?_, fun h' tk hk => ?_⟩
    · obtain ⟨b, e, rfl⟩ := hb.get i v (by simpa using hP)
      simp only [e, Option.getD_some] at hQ
      exact wpAny_truthy_bool hQ
    · have e : ((List.range its.toArray.size).all fun i => (bs[i]?).getD true) = bs.all id := by
        rw [List.size_toArray, hb.length]; exact LSm.range_all bs
      rw [e]
      exact ⟨.bl _, H, I.kept (LSm.kept_iter hk), rfl, h2⟩
  · exact h.elim
theorem all_rd {K : PySem.W.Frag} {p : Addr} {H : Hp} {Q : VK} {bs : List Bool} (h : H p = some (.lst (bs.map V.bl))) (q : Q (.bl (bs.all id)) H) : rAllA K p H Q := by unfold rAllA; exact ⟨bs, SqL.of h, q⟩
/-! ### methods of lists -/
@[irreducible] def rLstIs (K : PySem.W.Frag) (p : Addr) (H : Hp) (R : Prop) : Prop := (∃ xs, SqL K H p xs) ∧ R
def qBM (K : PySem.W.Frag) (r : Addr → List V → Hp → VK → Prop) (to : TE) (t : TA) : TE := fun σ H Q => to σ H fun x H1 => match x with
  | .ref p => rLstIs K p H1 (t σ H1 fun xs H2 => r p xs H2 Q)
  | _ => False
theorem lst_is {K : PySem.W.Frag} {p : Addr} {H : Hp} {R : Prop} {xs : List V} (h : H p = some (.lst xs)) (q : R) : rLstIs K p H R := by unfold rLstIs; exact ⟨⟨xs, SqL.of h⟩, q⟩
def MtA (X : Cx) (id : String) (r : Addr → List V → Hp → VK → Prop) : Prop :=
  ∀ (pins : List (Addr × Obj)) (s : Shared) (σ : St) (H : Hp) (p : Addr) (xs : List V) (us : List Value) (Q : VK), Inv X pins σ H s → Vals xs us → r p xs H Q →
    wpAny (model X.prog X.w) X.A (call (.builtin id) (.ref p :: us)) (EP X pins σ Q) X.xe s
theorem peBM {o e : Expr} {es : List Expr} {to : TE} {t : TA} {name : Str} {apos cpos : Pos} {id : String} {r : Addr → List V → Hp → VK → Prop} (slot : Slot "list" name id) (hty : typeOf (.builtin id) = pure (.type "method_descriptor")) (hm : MtA X id r) (ho : PE X o to) (ha : PA X (e :: es) t)
    (hbase : attributeBase o name X.env (eval o X.env) = eval o X.env := by rfl)
    (hfew : ((backTo cpos (starEach (e :: es) X.env)).all (fun x => !x.1) && (backToKw cpos (keywordEach [] X.env)).all (fun x => x.1.isSome)
      && decide ((e :: es).length + ([] : List Keyword).length + (if ([] : List Keyword).isEmpty then 0 else 1) < 30)) = true := by rfl)
    (hline : (apos.endLine == cpos.line) = true := by rfl) (hs : starEach (e :: es) X.env = (false, eval e X.env) :: starEach es X.env := by rfl) (hplain : (backTo cpos (starEach es X.env)).any (·.1) = false := by rfl) :
    PE X (.Call (.Attribute o name apos) (e :: es) [] cpos) (qBM X.K r to t) := by
  intro pins s σ H Q I h
  refine wpAny_Call_method_late hbase hfew hline rfl (thn (ho pins s σ H _ I h) fun v s1 ⟨x, H1, I1, r1, q1⟩ => ?_)
  dsimp only at q1
  split at q1
  · rename_i p
    unfold rLstIs at q1
    obtain ⟨hq, q1⟩ := q1
    obtain ⟨h1, h2⟩ := tyV_is (T := "list") I1 r1 (.inl ⟨rfl, hq⟩)
    refine ⟨"list", id, PySem.F.plainAttrs_list, slot, hty, h1, h2, ?_⟩
    have hA := ha cpos pins s1 σ H1 _ I1 q1
    rw [hs] at hA ⊢
    refine Calls.callWith_builtin (by show (false || (backTo cpos (starEach es X.env)).any (·.1)) = false; rw [hplain] <;> rfl) (Calls.evalArgs_plain ?_)
    cases r1
    exact thn hA fun us s2 ⟨vs, H2, I2, r2, q2⟩ => hm pins s2 σ H2 p vs us Q I2 r2 q2
  · exact q1.elim
@[irreducible] def rAppA (p : Addr) (v : V) (H : Hp) (Q : VK) : Prop := ∃ xs, H p = some (.lst xs) ∧ xs.length < sizeLine ∧ ∀ H', Chg p H H' → H' p = some (.lst (xs ++ [v])) → Q .non H'
def rAppM : Addr → List V → Hp → VK → Prop := fun p vs H Q => match vs with
  | [v] => rAppA p v H Q
  | _ => False
theorem mAppend : MtA X "list.append" rAppM := fun pins s σ H p xs us Q I r h => by
  unfold rAppM at h
  split at h
  · unfold rAppA at h
    obtain ⟨ys, h1, h2, h3⟩ := h
    exact mt_append pins s σ H (.ref p) _ (.ref p) us Q I rfl r ⟨p, ys, _, rfl, rfl, h1, h2, h3 _ Chg.upd upd_same⟩
  · exact h.elim
theorem app_rd {p : Addr} {v : V} {H : Hp} {Q : VK} {xs : List V} (h : H p = some (.lst xs)) (hz : xs.length < sizeLine) (q : ∀ H', Chg p H H' → H' p = some (.lst (xs ++ [v])) → Q .non H') : rAppA p v H Q := by unfold rAppA; exact ⟨xs, h, hz, q⟩
theorem peM_append {o e : Expr} {to : TE} {t : TA} {apos cpos : Pos} (ho : PE X o to) (ha : PA X [e] t) (hbase : attributeBase o "append" X.env (eval o X.env) = eval o X.env := by rfl)
    (hfew : ((backTo cpos (starEach [e] X.env)).all (fun x => !x.1) && (backToKw cpos (keywordEach [] X.env)).all (fun x => x.1.isSome)
      && decide ([e].length + ([] : List Keyword).length + (if ([] : List Keyword).isEmpty then 0 else 1) < 30)) = true := by rfl)
    (hline : (apos.endLine == cpos.line) = true := by rfl) (hs : starEach [e] X.env = (false, eval e X.env) :: starEach [] X.env := by rfl) (hplain : (backTo cpos (starEach [] X.env)).any (·.1) = false := by rfl) : PE X (.Call (.Attribute o "append" apos) [e] [] cpos) (qBM X.K rAppM to t) :=
  peBM PySem.F.slot_list_append PySem.F.type_list_append mAppend ho ha hbase hfew hline hs hplain
/-! ### name op= e -/
/-! ### is None -/
/-! ### a, b = a list -/
section
variable {prog : Program} {w : World} {A : Around} {E : Value → Shared → Prop} {s : Shared}
theorem draw_list {it t : Addr} {items : Array Value} (hne : t ≠ it) : ∀ (n i : Nat) (s : Shared) (Q : List Value → Shared → Prop), s.heap.IsListIter it t i → s.heap.IsList t items → i + n ≤ items.size →
    (∀ h', h'.IsListIter it t (i + n) → Heap.SameBut it s.heap h' → Q ((items.toList.drop i).take n) { s with heap := h' }) → wpAny (model prog w) A (draw (.ref it) n) Q E s
  | 0, i, s, Q, hit, _, _, hQ => by
    show wpAny _ _ (pure []) Q E s
    exact wpAny_pure (by simpa using hQ s.heap hit (Heap.SameBut.refl ..))
  | n + 1, i, s, Q, hit, ht, hle, hQ => by
    have hlt : i < items.size := by omega
    show wpAny _ _ (pyNext (.ref it) >>= _) Q E s
    refine wpAny_bind (wpAny_pyNext_list_item hit ht (x := items[i]) (by simp [hlt]) fun h₁ hit₁ hs₁ => ?_)
    refine wpAny_bind (wpAny_holding (draw_list hne n (i + 1) _ _ hit₁ (ht.extBut hs₁.extBut hne) (by omega) fun h₂ hit₂ hs₂ => wpAny_pure ?_))
    have hd : items.toList.drop i = items[i] :: items.toList.drop (i + 1) := by simp [List.drop_eq_getElem_cons, hlt]
    have := hQ h₂ (by rw [show i + (n + 1) = i + 1 + n by omega]; exact hit₂) (hs₁.trans hs₂)
    rw [hd, List.take_succ_cons] at this
    exact this
theorem assign_Tuple_list {env : Env} {elts : List Expr} {x1} {pos : Pos} {t : Addr} {items : Array Value} {Q : Unit → Shared → Prop} (hh : A.handled = none) (ht : s.heap.IsList t items)
    (hn : (assignEach elts env).length = items.size) (hstar : (assignEach elts env).findIdx? (·.1) = none)
    (h : ∀ h', Heap.ExtBut s.heap.objs.size s.heap h' → wpAny (model prog w) A (assignInOrder ((assignEach elts env).map (·.2)) items.toList) Q E { s with heap := h' }) :
    wpAny (model prog w) A (assign (.Tuple elts x1 pos) env (.ref t)) Q E s := by
  rw [assign_Tuple]
  refine wpAny_bind (wpAny_standAt ?_)
  unfold unpack
  rw [hn, hstar]
  refine wpAny_bind (wpAny_holding ?_)
  have hlt : t ≠ s.heap.objs.size := by obtain ⟨o, ho, _⟩ := ht; exact Nat.ne_of_lt (Heap.lt_size ho)
  unfold unpackItems
  refine wpAny_bind ?_
  unfold notIterableAtAll
  refine wpAny_bind (wpAny_specialOf ht.typeIs F.slot_list_iter.lookup ?_)
  refine wpAny_pure ?_
  simp only [Bool.false_eq_true, if_false]
  refine wpAny_bind (wpAny_holding (wpAny_pyIter_list ht ?_))
  refine wpAny_bind (wpAny_holding (draw_list hlt items.size 0 _ _ ⟨_, Heap.get?_push_size _ rfl, rfl, rfl⟩ (ht.push _) (by omega) fun h₁ hit₁ hs₁ => ?_))
  have hall : List.take items.size (List.drop 0 items.toList) = items.toList := by
    rw [List.drop_zero]; exact List.take_of_length_le (by simp)
  rw [hall]
  rw [if_neg (by simp)]
  have ht₁ : h₁.IsList t items := (ht.push _).extBut hs₁.extBut hlt
  refine wpAny_bind (wpAny_holding (wpAny_pyNext_list_end hh hit₁ ht₁ (by simp) fun h₂ he₂ => ?_))
  simp only [Option.isSome_none, Bool.false_eq_true, if_false]
  exact wpAny_pure (h h₂ fun b o hb e => he₂ b o hb (hs₁.extBut b o hb (Heap.get?_push_of_some _ e)))
end
@[irreducible] def rUnpA (K : PySem.W.Frag) (a : Addr) (n : Nat) (t : TGs) (σ : St) (H : Hp) (Q : St → Hp → Prop) : Prop := ∃ xs, (SqT K H a xs ∨ SqL K H a xs) ∧ xs.length = n ∧ t xs σ H Q
def qgAny (K : PySem.W.Frag) (n : Nat) (t : TGs) : TG := fun v σ H Q => match v with
  | .ref a => rUnpA K a n t σ H Q
  | _ => False
theorem pgAny {pos : Pos} {es : List Expr} {k : Nat} {t : TGs} {n : Nat} (hc : X.calm = true) (h : PGs X es t)
    (hn : (assignEach es X.env).length = n := by rfl) (hst : (assignEach es X.env).findIdx? (·.1) = none := by rfl) : PG X (.Tuple es k pos) (qgAny X.K n t) := fun pins s σ H v u Q I r hq => by
  unfold qgAny at hq
  split at hq
  · unfold rUnpA at hq
    obtain ⟨xs, a1, a2, a3⟩ := hq
    rcases a1 with a1 | a1
    · exact pg_tup hc h hn hst pins s σ H _ u Q I r ⟨_, xs, rfl, a1, a2, a3⟩
    · cases r
      obtain ⟨its, rv, pl, hz⟩ := I.list a1
      refine assign_Tuple_list (I.ok.hd hc) pl.isList (by simp [hn, ← a2, rv.length]) hst fun h' hx => ?_
      have I1 : Inv X pins σ H { s with heap := h' } := I.kept (t' := s.toks) fun b o e => hx b o (Nat.ne_of_lt (Heap.lt_size e)) e
      exact h pins _ σ H xs _ Q I1 (by simpa using rv) a3
  · exact hq.elim
theorem unpT_rd {K : PySem.W.Frag} {a : Addr} {n : Nat} {t : TGs} {σ : St} {H : Hp} {Q : St → Hp → Prop} {xs : List V} (h : H a = some (.tup xs)) (q : t xs σ H Q) (e : xs.length = n := by rfl) : rUnpA K a n t σ H Q := by
  unfold rUnpA; exact ⟨xs, .inl (SqT.of h), e, q⟩
end
/-! ### two objects may have changed -/
def Chg2 (a c : Addr) (H H' : Hp) : Prop := ∀ b o, b ≠ a → b ≠ c → H b = some o → H' b = some o
theorem Chg2.refl (a c : Addr) (H : Hp) : Chg2 a c H H := fun _ _ _ _ e => e
theorem Chg2.trans {a c : Addr} {H H1 H2 : Hp} (x : Chg2 a c H H1) (y : Chg2 a c H1 H2) : Chg2 a c H H2 := fun b o h1 h2 e => y b o h1 h2 (x b o h1 h2 e)
theorem Chg.toL {a c : Addr} {H H1 : Hp} (x : Chg a H H1) : Chg2 a c H H1 := fun b o h1 _ e => x b o h1 e
theorem Chg.toR {a c : Addr} {H H1 : Hp} (x : Chg c H H1) : Chg2 a c H H1 := fun b o _ h2 e => x b o h2 e
theorem Same.to2 {a c : Addr} {H H1 : Hp} (x : Same H H1) : Chg2 a c H H1 := fun b o _ _ e => x b o e
theorem Chg2.at {a c b : Addr} {o : HO} {H H' : Hp} (x : Chg2 a c H H') (e : H b = some o) (h1 : b ≠ a) (h2 : b ≠ c) : H' b = some o := x b o h1 h2 e
/-! == with an empty list -/
/-! ### comprehensions whose elements change things: the word speaks of the heap by itself -/
def cV (n : Nat) (acc : Addr) (Pv : Nat → List V → St → Hp → Prop) : Nat → Nat → List V → St → Hp → Prop := fun i m ys σ H => m = n - i ∧ i ≤ n ∧ ys.length ≤ i ∧ H acc = some (.lst ys) ∧ Pv i ys σ H
section
variable {K : PySem.W.Frag} {g : TG} {tt : TT} {te : TE} {σ0 : St} {H1 : Hp} {Q : VK}
theorem cputV_rd {n i m : Nat} {acc : Addr} {Pv : Nat → List V → St → Hp → Prop} {ys : List V} {σ2 : St} {v : V} {H5 : Hp} (hi : i < n) (hm : m = n - i) (hl : ys.length ≤ i) (ha : H5 acc = some (.lst ys))
    (q : ∀ H6, Chg acc H5 H6 → H6 acc = some (.lst (ys ++ [v])) → Pv (i + 1) (ys ++ [v]) σ2 H6) : cPut (cV n acc Pv) acc ys i m σ2 v H5 := by
  unfold cPut
  exact ⟨ha, fun H6 hc h6 => ⟨n - (i + 1), by omega, rfl, by omega, by rw [List.length_append, List.length_singleton]; omega, h6, q H6 hc h6⟩⟩
theorem comp_rangeV {lo : Int} {n : Nat} (hn : n < sizeLine) (h : ∀ acc H2, H1 acc = none → Same H1 H2 → H2 acc = some (.lst []) → ∃ Pv : Nat → List V → St → Hp → Prop, Pv 0 [] σ0 H2 ∧
    (∀ i m ys σ H, i < n → m = n - i → ys.length ≤ i → H acc = some (.lst ys) → Pv i ys σ H → g (.int (lo + i)) σ H fun σ2 H3 => tt σ2 H3 fun b H4 => br b (te σ2 H4 fun v H5 => cPut (cV n acc Pv) acc ys i m σ2 v H5) (cSkip (cV n acc Pv) ys i m σ2 H4)) ∧
    ∀ ys σ H, H acc = some (.lst ys) → Pv n ys σ H → Q (.ref acc) H) : compW (Itr lo n) g tt te σ0 H1 Q := by
  unfold compW
  intro acc H2 hf hs ha
  obtain ⟨Pv, h0, turn, fin⟩ := h acc H2 hf hs ha
  refine ⟨cV n acc Pv, ⟨n, by simp, Nat.zero_le _, Nat.le_refl _, ha, h0⟩, ?_⟩
  rintro i m ys σ H ⟨hm, hi, hl, ha', hp⟩
  refine ⟨ha', by omega, ?_⟩
  by_cases hlt : i < n
  · refine .inr ⟨hlt, fun x H' y => ?_⟩
    obtain ⟨e, y⟩ := y
    subst e y
    exact turn i m ys σ _ hlt hm hl ha' hp
  · have e : i = n := by omega
    subst e
    exact .inl ⟨Nat.le_refl _, fin ys σ H ha' hp⟩
end
/-! ### the rules by the written part itself, so that a block's reading hangs on nothing of the block -/
section
variable {X : Cx} {K : PySem.W.Frag}
theorem slK (hK : X.K = K) : SlR X (rSlM K) := by subst hK; exact slM
theorem peIxK {a b : Expr} {ta tb : TE} {pos : Pos} (hK : X.K = K) (ha : PE X a ta) (hb : PE X b tb) (hs : PlainIx b := by exact fun _ _ => rfl) : PE X (.Subscript a b pos) (tOp (rIxM K) ta tb) := by subst hK; exact peIx ha hb hs
theorem cLenK (hK : X.K = K) : CallR X (.builtin "len") (rLenM K) := by subst hK; exact cLen
theorem cIsiK (hK : X.K = K) : CallR X (.builtin "isinstance") (rIsiM K) := by subst hK; exact cIsi
theorem cSumK (hK : X.K = K) (hc : X.calm = true) : CallR X (.builtin "sum") (rSumM K) := by subst hK; exact cSum hc
theorem cAllK (hK : X.K = K) (hc : X.calm = true) : CallR X (.builtin "all") (rAllM K) := by subst hK; exact cAll hc
theorem oEqK (hK : X.K = K) (hu : X.A.units + 40 < cLine) : OpR X (compareOp .Eq) (rEqM K) := by subst hK; exact oEq hu
theorem oNeK (hK : X.K = K) (hu : X.A.units + 40 < cLine) : OpR X (compareOp .NotEq) (rNeM K) := by subst hK; exact oNe hu
theorem piSeqK {tg l : Expr} {tl : TE} (hK : X.K = K) (hl : PE X l tl) : PI X tg l (qiSeq K tl) := by subst hK; exact piSeq hl
theorem pgAnyK {pos : Pos} {es : List Expr} {k : Nat} {t : TGs} {n : Nat} (hK : X.K = K) (hc : X.calm = true) (h : PGs X es t)
    (hn : (assignEach es X.env).length = n := by rfl) (hst : (assignEach es X.env).findIdx? (·.1) = none := by rfl) : PG X (.Tuple es k pos) (qgAny K n t) := by subst hK; exact pgAny hc h hn hst
end
end L2

set_option Elab.async false
set_option linter.all false
set_option maxRecDepth 100000
set_option maxHeartbeats 2000000
namespace L2
open PySem PySem.Spec PyProof.Rows
/-! ### enumerate over a list -/
def Ite (K : PySem.W.Frag) (a : Addr) : It :=
  ⟨fun i H => ∃ xs x, SqL K H a xs ∧ xs[i]? = some x, fun i H v H' => ∃ p y, v = .ref p ∧ H p = none ∧ Same H H' ∧ H' p = some (.tup [.int i, y]) ∧ ∀ xs, SqL K H a xs → xs[i]? = some y, fun i H => ∃ xs, SqL K H a xs ∧ xs.length ≤ i⟩
theorem turn_enum {P : Program} {w : World} {K : PySem.W.Frag} {elts : List Expr} {k : Nat} {pos : Pos} (a it e : Addr) (hne : e ≠ it) : Turn P w K (.Tuple elts k pos) (Ite K a) [it, e] e (fun i h => (∃ old, IsEnum h e it i old) ∧ h.IsListIter it a i) where
  mem := by simp
  obj := fun i h st b hb => by
    obtain ⟨⟨old, he⟩, o, e1, c, d⟩ := st
    rcases List.mem_cons.mp hb with rfl | hb
    · exact ⟨o, e1, fun v z => by rw [d] at z; cases z⟩
    · have : b = e := by simpa using hb
      subst this
      exact ⟨_, he, fun v z => by cases z⟩
  keep := fun i h h' st kp => by
    obtain ⟨⟨old, he⟩, hi⟩ := st
    exact ⟨⟨old, kp e (by simp) _ he⟩, hi.at fun o x => kp it (by simp) o x⟩
  item := by
    intro X hP hw hK hc i pins s σ H E I hf st hg
    subst hP hw hK
    obtain ⟨⟨old, he⟩, hit⟩ := st
    obtain ⟨xs, x, hq, hx⟩ := hg
    obtain ⟨its, rv, p, hz⟩ := I.list hq
    obtain ⟨u, hu, ru⟩ := rv.get hx
    obtain ⟨f0, f1, f2, f3, f4, f5⟩ := hf it (by simp)
    obtain ⟨g0, g1, g2, g3, g4, g5⟩ := hf e (by simp)
    refine wpAny_pyNext_enum_item he hit p.isList (x := u) (by simpa using hu) hne fun h1 heo hit1 ht1 hz1 hk1 => ?_
    refine ⟨_, rfl, wpAny_letOwnedTupleGo_enum heo fun h2 he2 hs2 => ?_⟩
    replace hs2 : Heap.SameBut e h1 h2 := hs2
    have hel : e < s.heap.objs.size := Heap.lt_size he
    have kp : ∀ b o, b ∉ [it, e] → s.heap.get? b = some o → h2.get? b = some o := fun b o hb x => by
      have b1 : b ≠ it := fun z => hb (by simp [z])
      have b2 : b ≠ e := fun z => hb (by simp [z])
      exact (hs2.2 b b2).trans (hk1 b o b2 b1 x)
    have ht2 : h2.get? s.heap.objs.size = some { cls := .type "tuple", data := .seq #[.int i s.toks, u] } := (hs2.2 _ (Nat.ne_of_gt hel)).trans ht1
    have hfr : H s.heap.objs.size = none := I.fresh
    have nof : ∀ b v, H b = some v → b ∉ [it, e] := fun b v hb z => by
      rcases List.mem_cons.mp z with rfl | z
      · rw [f0] at hb; cases hb
      · have : b = e := by simpa using z
        subst this
        rw [g0] at hb; cases hb
    have nlt : ∀ b o, s.heap.get? b = some o → b ≠ s.heap.objs.size := fun b o x => Nat.ne_of_lt (Heap.lt_size x)
    have hok : HOk X.prog X.w (upd H s.heap.objs.size (.tup [.int i, x])) h2 := fun b v hb => by
      by_cases e1 : b = s.heap.objs.size
      · subst e1
        rw [upd_same] at hb
        cases hb
        exact ⟨by show 2 ≤ sizeLine; decide, [.int i s.toks, u], .cons ⟨_, rfl⟩ (.cons ru .nil), ⟨_, ht2, rfl, _, rfl⟩⟩
      · rw [upd_ne e1] at hb
        refine (I.hok b v hb).stay (fun c w' hc q => ?_) (fun c q => ?_) (fun c ys q => ?_)
        · rcases hc with rfl | hc
          · exact kp _ _ (nof _ _ hb) q
          · exact kp _ _ (nof _ _ hc) q
        · rw [upd_ne (ne_of_none q hfr)]; exact q
        · rw [upd_ne (ne_of_none q hfr)]; exact q
    have chs : ∀ b ∈ [it, e], (b ∈ X.ex ∨ X.s₀.heap.objs.size ≤ b) ∧ b ≠ X.env.locals ∧ (∀ x c, X.env.cells.lookup x = some c → c ≠ b) ∧ ∀ p ∈ X.pn ++ pins, p.1 ≠ b := fun b hb => by
      rcases List.mem_cons.mp hb with rfl | hb
      · exact ⟨f3, f1, f4, f5⟩
      · have : b = e := by simpa using hb
        subst this
        exact ⟨g3, g1, g4, g5⟩
    have I2 : Inv X pins σ (upd H s.heap.objs.size (.tup [.int i, x])) { s with heap := h2, toks := s.toks + 1 } :=
      I.step (g' := s.gens) (d' := s.drawn) (t' := s.toks + 1) (ch := [it, e]) chs (fun b o _ _ hb x _ => kp b o hb x) (fun b o _ _ hb x _ => ⟨o.slots, kp b o hb x⟩)
        (fun b o _ x n => by rw [upd_ne (nlt b o x)]; exact n) (fun b o hb x => ⟨o, kp b o hb x⟩) (fun b ys q => by rw [upd_ne (ne_of_none q hfr)]; exact q) (fun b o v q => by rw [upd_ne (ne_of_none q hfr)]; exact q)
        (fun b ps q => ⟨#[], by rw [upd_ne (ne_of_none q hfr), q]; simp⟩)
        (fun m hm => by
          obtain ⟨o, es, ep, ho, r⟩ := hm
          exact ⟨o, es, ep, kp _ o (fun z => by
            rcases List.mem_cons.mp z with z | z
            · exact f1 z.symm
            · exact g1 (by simpa using z : X.env.locals = e).symm) ho, r⟩) hok I.bare
    have hi1 : h2.IsListIter it a (i + 1) := hit1.extBut hs2.extBut (Ne.symm hne)
    have he3 : IsEnum h2 e it ((i + 1 : Nat) : Int) u := by
      have : ((i + 1 : Nat) : Int) = (i : Int) + 1 := by push_cast; rfl
      rw [this]; exact he2
    refine ⟨.ref s.heap.objs.size, _, I2, rfl, ⟨_, x, rfl, hfr, Same.upd hfr, upd_same, fun ys hy => by rw [I.list_inj hy hq]; exact hx⟩, ⟨⟨u, he3⟩, hi1⟩, fun b hb => ?_⟩
    have hb0 : H b = none := (hf b hb).1
    have hlt : b ≠ s.heap.objs.size := by
      rcases List.mem_cons.mp hb with rfl | hb
      · obtain ⟨o, ho, _⟩ := hit; exact nlt _ _ ho
      · have : b = e := by simpa using hb
        subst this
        exact Nat.ne_of_lt hel
    rw [upd_ne hlt]; exact hb0
  done := by
    intro X hP hw hK hc i pins s σ H E I hf st hg
    subst hP hw hK
    obtain ⟨⟨old, he⟩, hit⟩ := st
    obtain ⟨xs, hq, hx⟩ := hg
    obtain ⟨its, rv, p, hz⟩ := I.list hq
    obtain ⟨f0, f1, f2, f3, f4, f5⟩ := hf it (by simp)
    have hl := rv.length
    exact wpAny_pyNext_enum_end (I.ok.hd hc) he hit p.isList (by simp; omega) fun h' eb => ⟨rfl, I.turned (t' := s.toks) (fun b o hb e => eb b o hb e) f0 f1 f3 f4 f5⟩
  self := fun _ _ _ _ _ st h => by
    obtain ⟨⟨old, he⟩, _⟩ := st
    exact wpAny_pyIter_enum he h
section
variable {X : Cx} {K : PySem.W.Frag}
theorem bt_enumerate : bootBuiltins "enumerate" = some (.type "enumerate") := by decide +kernel
@[irreducible] def rEnum (K : PySem.W.Frag) (a : Addr) (H : Hp) (R : It → Hp → Prop) : Prop := (∃ xs, SqL K H a xs) ∧ R (Ite K a) H
def qiEnum (K : PySem.W.Frag) (ta : TA) : TI := fun σ H R => ta σ H fun vs H1 => match vs with
  | [.ref a] => rEnum K a H1 R
  | _ => False
theorem piEnum {elts : List Expr} {k : Nat} {pt : Pos} {a : Expr} {ta : TA} {p pos : Pos} (hm : X.mg "enumerate" = none) (ha : PA X [a] ta) (hg : Gl X "enumerate" := by rfl) (hs : starEach [a] X.env = [(false, eval a X.env)] := by rfl) :
    PI X (.Tuple elts k pt) (.Call (.Name "enumerate" p) [a] [] pos) (qiEnum X.K ta) := by
  intro pins s σ H R I h
  refine Call_ (ld_blt I hg hm bt_enumerate (PyProof.Rows.callWith_type1 (thn (ha pos pins s σ H _ I h) fun us s1 ⟨vs, H1, I1, r1, q1⟩ => ?_) hs rfl))
  dsimp only at q1
  split at q1
  · rename_i l
    unfold rEnum at q1
    obtain ⟨⟨xs, hq⟩, q⟩ := q1
    obtain ⟨u, rfl, rx⟩ := vals1 r1
    cases rx
    obtain ⟨its, rv, pl, hz⟩ := I1.list hq
    refine call_enumerate_list pl.isList fun h' he hit hsz hk => ?_
    refine wpAny_pyIter_enum he ?_
    have I2 : Inv X pins σ H1 { s1 with heap := h' } := I1.kept (t' := s1.toks) hk
    refine ⟨s1.heap.objs.size + 1, [s1.heap.objs.size, s1.heap.objs.size + 1], _, Ite X.K l, H1, rfl, I2, turn_enum l _ _ (Nat.succ_ne_self _), ⟨⟨_, he⟩, hit⟩, fun b hb => ?_, q⟩
    have hb' : s1.heap.objs.size ≤ b := by
      rcases List.mem_cons.mp hb with rfl | hb
      · exact Nat.le_refl _
      · have : b = s1.heap.objs.size + 1 := by simpa using hb
        subst this
        exact Nat.le_succ _
    exact I1.fpOk hb' (I1.hok.fresh hb')
  · exact q1.elim
theorem piEnumK {elts : List Expr} {k : Nat} {pt : Pos} {a : Expr} {ta : TA} {p pos : Pos} (hK : X.K = K) (hm : X.mg "enumerate" = none) (ha : PA X [a] ta) (hg : Gl X "enumerate" := by rfl) (hs : starEach [a] X.env = [(false, eval a X.env)] := by rfl) :
    PI X (.Tuple elts k pt) (.Call (.Name "enumerate" p) [a] [] pos) (qiEnum K ta) := by subst hK; exact piEnum hm ha hg hs
end
section
variable {K : PySem.W.Frag} {g : TG} {tb : TS} {D : Ends} {σ : St} {H : Hp} {R : It → Hp → Prop}
theorem enum_rd {a : Addr} {xs : List V} (h : H a = some (.lst xs)) (q : R (Ite K a) H) : rEnum K a H R := by unfold rEnum; exact ⟨⟨xs, SqL.of h⟩, q⟩
theorem loop_enum {a : Addr} {xs : List V} (Pv : Nat → St → Hp → Prop) (h0 : Pv 0 σ H) (hl : ∀ i σ H, i ≤ xs.length → Pv i σ H → SqL K H a xs)
    (hs : ∀ i y σ H p H', xs[i]? = some y → Pv i σ H → H p = none → Same H H' → H' p = some (.tup [.int i, y]) → g (.ref p) σ H' fun σ2 H2 => tb { D with nx := Pv (i + 1), ct := Pv (i + 1), bk := D.nx } σ2 H2) (hd : ∀ σ H, Pv xs.length σ H → D.nx σ H) : loopW (Ite K a) g tb D σ H := by
  unfold loopW
  refine ⟨fun i m σ H => m = xs.length - i ∧ i ≤ xs.length ∧ Pv i σ H, ⟨xs.length, by simp, Nat.zero_le _, h0⟩, ?_⟩
  rintro i m σ H ⟨rfl, hi, p⟩
  have q := hl i σ H hi p
  by_cases hlt : i < xs.length
  · refine .inr ⟨⟨xs, xs[i], q, by simp [hlt]⟩, Pv (i + 1), fun σ' H' p' => ⟨xs.length - (i + 1), by omega, rfl, hlt, p'⟩, fun x H' y => ?_⟩
    obtain ⟨pp, yy, rfl, y1, y2, y3, y4⟩ := y
    exact hs i yy σ H pp H' (y4 xs q) p y1 y2 y3
  · have e : i = xs.length := by omega
    subst e
    exact .inl ⟨⟨xs, q, Nat.le_refl _⟩, hd σ H p⟩
end
section
variable {K : PySem.W.Frag} {g : TG} {tt : TT} {te : TE} {σ0 : St} {H1 : Hp} {Q : VK}
end
/-! ### list.count of flat things -/
section
variable {X : Cx} {K : PySem.W.Frag}
end
end L2

set_option Elab.async false
set_option linter.all false
set_option maxRecDepth 100000
set_option maxHeartbeats 2000000
namespace L2
open PySem PySem.Spec PyProof.Rows
/-! ### slices -/
theorem cut_drop {xs : List V} {k : Int} (h : 0 ≤ k) : cutV xs (some k) none = xs.drop k.toNat := by
  show List.take (xs.length - (if k < 0 then (k + (xs.length : Int)).toNat else min k.toNat xs.length)) (List.drop (if k < 0 then (k + (xs.length : Int)).toNat else min k.toNat xs.length) xs) = _
  rw [if_neg (by omega)]
  by_cases hk : k.toNat ≤ xs.length
  · rw [Nat.min_eq_left hk, List.take_of_length_le (by rw [List.length_drop]; omega)]
  · rw [Nat.min_eq_right (by omega), List.drop_of_length_le (by omega), List.drop_of_length_le (by omega), List.take_nil]
theorem cut_takeV {xs : List V} {k : Int} (h : 0 ≤ k) : cutV xs none (some k) = xs.take k.toNat := by
  show List.take ((if k < 0 then (k + (xs.length : Int)).toNat else min k.toNat xs.length) - 0) (List.drop 0 xs) = _
  rw [if_neg (by omega), List.drop_zero, Nat.sub_zero]
  by_cases hk : k.toNat ≤ xs.length
  · rw [Nat.min_eq_left hk]
  · rw [Nat.min_eq_right (by omega), List.take_of_length_le (Nat.le_refl _), List.take_of_length_le (by omega)]
/-! ### rows of ints, by a function -/
def rowV (n : Nat) (r : Nat → Int) : List V := (List.range n).map fun t => V.int (r t)
theorem rowV_len (n : Nat) (r : Nat → Int) : (rowV n r).length = n := by unfold rowV; simp
theorem rowV_get {n : Nat} {r : Nat → Int} {i : Nat} (h : i < n) : (rowV n r)[i]? = some (.int (r i)) := by unfold rowV; simp [h]
theorem rowV_ext {n : Nat} {r s : Nat → Int} (h : ∀ t, t < n → r t = s t) : rowV n r = rowV n s := by
  unfold rowV
  refine List.map_congr_left fun t ht => ?_
  rw [h t (List.mem_range.mp ht)]
theorem rowV_set {n : Nat} {r : Nat → Int} {j : Nat} {v : Int} : (rowV n r).set j (.int v) = rowV n fun t => if t = j then v else r t := by
  apply List.ext_getElem?
  intro i
  rw [List.getElem?_set]
  by_cases hi : i < n
  · rw [rowV_get hi, rowV_get hi]
    by_cases hj : j = i
    · subst hj; simp [rowV_len, hi]
    · simp [hj, Ne.symm hj]
  · have e : ∀ r : Nat → Int, (rowV n r)[i]? = none := fun r => by simp [rowV_len]; omega
    rw [e, e]
    split
    · simp [rowV_len]; omega
    · rfl
theorem rowV_ints (n : Nat) (r : Nat → Int) : rowV n r = ((List.range n).map r).map V.int := by unfold rowV; rw [List.map_map]; rfl
/-! ### an item by a place -/
theorem ixN_in {n : Nat} {i : Int} (h0 : 0 ≤ i) (h1 : i < n) : ixN n i = some i.toNat := by unfold ixN; rw [if_pos h0, if_pos h1]
/-! ### a list of rows -/
structure GridAt (H : Hp) (a : Addr) (ps : List Addr) (n h : Nat) (g : Nat → Nat → Int) : Prop where
  out : H a = some (.lst (ps.map V.ref))
  len : ps.length = n
  row : ∀ (i : Nat) (p : Addr), ps[i]? = some p → H p = some (.lst (rowV h (g i)))
theorem GridAt.same {H H' : Hp} {a : Addr} {ps : List Addr} {n h : Nat} {g : Nat → Nat → Int} (G : GridAt H a ps n h g) (s : Same H H') : GridAt H' a ps n h g := ⟨s _ _ G.out, G.len, fun i p e => s _ _ (G.row i p e)⟩
theorem GridAt.some {H : Hp} {a : Addr} {ps : List Addr} {n h : Nat} {g : Nat → Nat → Int} (G : GridAt H a ps n h g) {i : Nat} (hi : i < n) : ∃ p, ps[i]? = .some p ∧ H p = .some (.lst (rowV h (g i))) := by
  have hl : i < ps.length := by rw [G.len]; exact hi
  exact ⟨ps[i], List.getElem?_eq_getElem hl, G.row i _ (List.getElem?_eq_getElem hl)⟩
/-! ### comprehensions, by what is walked -/
structure Wk (J : It) (n : Nat) (H1 : Hp) (X : Nat → V → Hp → Prop) : Prop where
  go : ∀ i H, Same H1 H → i < n → J.go i H
  stop : ∀ H, Same H1 H → J.stop n H
  yld : ∀ i H x H', Same H1 H → i < n → J.yld i H x H' → Same H H' ∧ X i x H'
theorem Wk.range {lo : Int} {n : Nat} {H1 : Hp} : Wk (Itr lo n) n H1 fun i x _ => x = .int (lo + i) :=
  ⟨fun i H _ h => h, fun H _ => Nat.le_refl _, fun i H x H' _ _ y => by obtain ⟨rfl, rfl⟩ := y; exact ⟨Same.refl _, rfl⟩⟩
theorem Wk.list {K : PySem.W.Frag} {a : Addr} {xs : List V} {H1 : Hp} (h : SqL K H1 a xs) : Wk (Itl K a) xs.length H1 fun i x _ => xs[i]? = some x :=
  ⟨fun i H s hi => ⟨xs, xs[i], s.seq h, by simp [hi]⟩, fun H s => ⟨xs, s.seq h, Nat.le_refl _⟩, fun i H x H' s _ y => by
    obtain ⟨e, y⟩ := y
    subst e
    exact ⟨Same.refl _, y xs (s.seq h)⟩⟩
/-- new lists, one for each turn -/
structure FreshL (H1 H : Hp) (acc : Addr) (ps : List Addr) (n : Nat) (f : Nat → HO) : Prop where
  facc : H1 acc = none
  same : Same H1 H
  out : H acc = some (.lst (ps.map V.ref))
  len : ps.length = n
  nd : ps.Nodup
  nin : acc ∉ ps
  row : ∀ i p, ps[i]? = some p → H1 p = none ∧ H p = some (f i)
theorem FreshL.some {H1 H : Hp} {acc : Addr} {ps : List Addr} {n : Nat} {f : Nat → HO} (F : FreshL H1 H acc ps n f) {i : Nat} (hi : i < n) : ∃ p, ps[i]? = .some p ∧ H p = .some (f i) := by
  have hl : i < ps.length := by rw [F.len]; exact hi
  exact ⟨ps[i], List.getElem?_eq_getElem hl, (F.row i _ (List.getElem?_eq_getElem hl)).2⟩
section
variable {K : PySem.W.Frag} {g : TG} {tt : TT} {te : TE} {σ0 : St} {H1 : Hp} {Q : VK} {J : It} {n : Nat} {X : Nat → V → Hp → Prop}
/-- each turn tells a new object -/
theorem comp_F (w : Wk J n H1 X) (hn : n < sizeLine) (f : Nat → HO) (Ps : Nat → St → Prop) (h0 : Ps 0 σ0)
    (turn : ∀ i x σ H (R : St → V → Hp → Prop) (S : St → Hp → Prop), i < n → Same H1 H → X i x H → Ps i σ → (∀ σ2 p H5, H p = none → Same H H5 → H5 p = some (f i) → Ps (i + 1) σ2 → R σ2 (.ref p) H5) → g x σ H fun σ2 H3 => tt σ2 H3 fun b H4 => br b (te σ2 H4 fun v H5 => R σ2 v H5) (S σ2 H4))
    (fin : ∀ acc ps H, FreshL H1 H acc ps n f → Q (.ref acc) H) : compW J g tt te σ0 H1 Q := by
  unfold compW
  intro acc H2 hf hs ha
  refine ⟨fun i m ys σ H => m = n - i ∧ i ≤ n ∧ ∃ ps : List Addr, ys = ps.map V.ref ∧ FreshL H1 H acc ps i f ∧ Ps i σ, ⟨n, by simp, Nat.zero_le _, [], rfl, ⟨hf, hs, ha, rfl, List.nodup_nil, by simp, fun i p e => by simp at e⟩, h0⟩, ?_⟩
  rintro i m ys σ H ⟨rfl, hi, ps, rfl, F, P⟩
  refine ⟨F.out, by rw [List.length_map, F.len]; omega, ?_⟩
  by_cases hlt : i < n
  · refine .inr ⟨w.go i H F.same hlt, fun x H' y => ?_⟩
    obtain ⟨s1, x1⟩ := w.yld i H x H' F.same hlt y
    refine turn i x σ H' (fun σ2 v H5 => cPut _ acc (ps.map V.ref) i (n - i) σ2 v H5) (fun σ2 H4 => cSkip _ (ps.map V.ref) i (n - i) σ2 H4) hlt (F.same.trans s1) x1 P ?_
    intro σ2 p H5 fp s5 hp P2
    have fp0 : H p = none := s1.free fp
    have s15 := s1.trans s5
    have na : p ≠ acc := Ne.symm (ne_of_none F.out fp0)
    unfold cPut
    refine ⟨s15 _ _ F.out, fun H6 c6 h6 => ⟨n - (i + 1), by omega, rfl, hlt, ps ++ [p], by rw [List.map_append]; rfl, ⟨F.facc, (F.same.trans s15).chg F.facc c6, by rw [List.map_append]; exact h6, by rw [List.length_append, F.len]; rfl, ?_, ?_, ?_⟩, P2⟩⟩
    · rw [List.nodup_append]
      refine ⟨F.nd, by simp, fun a ha b hb => ?_⟩
      have : b = p := by simpa using hb
      subst this
      obtain ⟨k, hk⟩ := List.getElem?_of_mem ha
      exact ne_of_none (F.row k a hk).2 fp0
    · intro hz
      rcases List.mem_append.mp hz with hz | hz
      · exact F.nin hz
      · exact na (by simpa using hz : acc = p).symm
    · intro k q e
      by_cases hk : k < ps.length
      · rw [List.getElem?_append_left hk] at e
        obtain ⟨z1, z2⟩ := F.row k q e
        exact ⟨z1, c6 _ _ (fun z => F.nin (z ▸ List.mem_of_getElem? e)) (s15 _ _ z2)⟩
      · rw [List.getElem?_append_right (by omega)] at e
        have hk2 : k - ps.length = 0 := by
          have := (List.getElem?_eq_some_iff.mp e).1
          simp at this; omega
        rw [hk2] at e
        have : p = q := by simpa using e
        subst this
        have : k = i := by have := F.len; omega
        subst this
        exact ⟨F.same.free fp0, c6 _ _ na hp⟩
  · have e : i = n := by omega
    subst e
    exact .inl ⟨w.stop H F.same, fin acc ps H F⟩
/-- each turn tells a value, or is left out -/
theorem comp_I (w : Wk J n H1 X) (hn : n < sizeLine) (f : Nat → V) (p : Nat → Bool) (Ps : Nat → St → Prop) (h0 : Ps 0 σ0)
    (turn : ∀ i x σ H (R : St → V → Hp → Prop) (S : St → Hp → Prop), i < n → Same H1 H → X i x H → Ps i σ → (p i = true → ∀ σ2 H5, Same H H5 → Ps (i + 1) σ2 → R σ2 (f i) H5) → (p i = false → ∀ σ2 H5, Same H H5 → Ps (i + 1) σ2 → S σ2 H5) →
      g x σ H fun σ2 H3 => tt σ2 H3 fun b H4 => br b (te σ2 H4 fun v H5 => R σ2 v H5) (S σ2 H4))
    (fin : ∀ acc H, H1 acc = none → Same H1 H → H acc = some (.lst (((List.range n).filter p).map f)) → Q (.ref acc) H) : compW J g tt te σ0 H1 Q := by
  unfold compW
  intro acc H2 hf hs ha
  refine ⟨fun i m ys σ H => m = n - i ∧ i ≤ n ∧ ys = ((List.range i).filter p).map f ∧ Same H1 H ∧ H acc = some (.lst ys) ∧ Ps i σ, ⟨n, by simp, Nat.zero_le _, rfl, hs, ha, h0⟩, ?_⟩
  rintro i m ys σ H ⟨rfl, hi, rfl, s, hy, P⟩
  have hlen : (((List.range i).filter p).map f).length ≤ i := by
    rw [List.length_map]
    have := List.length_filter_le p (List.range i)
    rwa [List.length_range] at this
  refine ⟨hy, by omega, ?_⟩
  by_cases hlt : i < n
  · refine .inr ⟨w.go i H s hlt, fun x H' y => ?_⟩
    obtain ⟨s1, x1⟩ := w.yld i H x H' s hlt y
    refine turn i x σ H' (fun σ2 v H5 => cPut _ acc _ i (n - i) σ2 v H5) (fun σ2 H4 => cSkip _ _ i (n - i) σ2 H4) hlt (s.trans s1) x1 P ?_ ?_
    · intro hp σ2 H5 s5 P2
      unfold cPut
      refine ⟨s5 _ _ (s1 _ _ hy), fun H6 c6 h6 => ⟨n - (i + 1), by omega, rfl, hlt, ?_, ((s.trans s1).trans s5).chg hf c6, h6, P2⟩⟩
      rw [List.range_succ, List.filter_append, List.map_append]
      congr 1
      simp [hp]
    · intro hp σ2 H5 s5 P2
      unfold cSkip
      refine ⟨n - (i + 1), by omega, rfl, hlt, ?_, (s.trans s1).trans s5, s5 _ _ (s1 _ _ hy), P2⟩
      rw [List.range_succ, List.filter_append, List.map_append]
      simp [hp]
  · have e : i = n := by omega
    subst e
    exact .inl ⟨w.stop H s, fin acc H hf s hy⟩
theorem filter_T (n : Nat) : (List.range n).filter (fun _ => true) = List.range n := by simp
end
/-! ### several objects may have changed -/
def ChgS (ps : List Addr) (H H' : Hp) : Prop := ∀ b o, b ∉ ps → H b = some o → H' b = some o
theorem ChgS.refl (ps : List Addr) (H : Hp) : ChgS ps H H := fun _ _ _ e => e
/-! ### == of lists of ints; of lists of these -/
theorem EqR.intL {K : PySem.W.Frag} {H : Hp} {a b : Addr} {xs ys : List Int} (ha : SqL K H a (xs.map V.int)) (hb : SqL K H b (ys.map V.int)) : EqR K H 1 (.ref a) (.ref b) (decide (xs = ys)) := by
  by_cases hl : xs.length = ys.length
  · have h := EqR.lst (K := K) (H := H) (n := 0) (fun j => decide (xs[j]? = ys[j]?)) ha hb (by simpa using hl) (fun j x y hx hy => by
      rw [List.getElem?_map] at hx hy
      obtain ⟨i, e1, rfl⟩ := Option.map_eq_some_iff.mp hx
      obtain ⟨k, e2, rfl⟩ := Option.map_eq_some_iff.mp hy
      have e : eqV (.int i) (.int k) = decide (xs[j]? = ys[j]?) := by
        rw [e1, e2]
        by_cases z : i = k
        · subst z; simp [eqV]
        · simp [eqV, z]
      rw [← e]
      exact EqR.flat rfl rfl)
    have e : (List.range (xs.map V.int).length).all (fun j => decide (xs[j]? = ys[j]?)) = decide (xs = ys) := by
      rw [Bool.eq_iff_iff, List.all_eq_true, decide_eq_true_iff]
      constructor
      · intro q
        apply List.ext_getElem?
        intro j
        by_cases hj : j < xs.length
        · exact of_decide_eq_true (q j (List.mem_range.mpr (by simpa using hj)))
        · rw [List.getElem?_eq_none (by omega), List.getElem?_eq_none (by omega)]
      · rintro rfl j _
        exact decide_eq_true rfl
    rw [e] at h
    exact h
  · have : decide (xs = ys) = false := decide_eq_false fun e => hl (by rw [e])
    rw [this]
    exact EqR.lstN ha hb (by simpa using hl)
theorem all_true (n : Nat) : (List.range n).all (fun _ => true) = true := by simp
/-- two lists whose things are the same, one by one -/
theorem EqR.allT {K : PySem.W.Frag} {H : Hp} {a b : Addr} {xs ys : List V} {n : Nat} (ha : SqL K H a xs) (hb : SqL K H b ys) (hl : xs.length = ys.length) (h : ∀ (j : Nat) (x y : V), xs[j]? = some x → ys[j]? = some y → EqR K H n x y true) : EqR K H (n + 1) (.ref a) (.ref b) true := by
  have := EqR.lst (fun _ => true) ha hb hl h
  rwa [all_true] at this
theorem EqR.rows {K : PySem.W.Frag} {H : Hp} {a b : Addr} {ps qs : List Addr} (ha : SqL K H a (ps.map V.ref)) (hb : SqL K H b (qs.map V.ref)) (hl : ps.length = qs.length) (h : ∀ (i : Nat) (p q : Addr), ps[i]? = some p → qs[i]? = some q → ∃ xs : List Int, SqL K H p (xs.map V.int) ∧ SqL K H q (xs.map V.int)) : EqR K H 2 (.ref a) (.ref b) true := by
  refine EqR.allT ha hb (by simpa using hl) fun j x y hx hy => ?_
  rw [List.getElem?_map] at hx hy
  obtain ⟨p, e1, rfl⟩ := Option.map_eq_some_iff.mp hx
  obtain ⟨q, e2, rfl⟩ := Option.map_eq_some_iff.mp hy
  obtain ⟨xs, h1, h2⟩ := h j p q e1 e2
  have := EqR.intL h1 h2
  rwa [decide_eq_true rfl] at this
end L2

set_option Elab.async false
set_option linter.all false
set_option maxRecDepth 100000
set_option maxHeartbeats 2000000
namespace L2
open PySem PySem.Spec PyProof.Rows
/-! ### range downwards -/
section
variable {X : Cx} {tg : Expr}
end
section
variable {K : PySem.W.Frag} {g : TG} {tb : TS} {D : Ends} {σ : St} {H : Hp} {R : It → Hp → Prop}
end
/-! ### methods of lists without arguments; extend -/
section
variable {X : Cx} {K : PySem.W.Frag}
/-! ### xs[::-1] -/
/-! ### min of a list of ints -/
theorem ptW {e : Expr} {t : TT} (h : PW X e t) : PT X e t := h.pt
end
end L2

set_option Elab.async false
set_option linter.all false
set_option maxRecDepth 100000
set_option maxHeartbeats 2000000
namespace L2
open PySem PySem.Spec PyProof.Rows
/-! ### an exception in flight, with its own dict: what notes a frame leaves it as it is but for its entry -/
section
variable {M : Model} {A : Around} {E : Value → Shared → Prop} {s : Shared} {B : Heap} {env : Env} {outer : List Env} {L e : Addr} {cls : Value} {dx : Option Addr} {Q : Unit → Shared → Prop}
end
/-! ### how an exception lies behind a call -/
section
variable {X : Cx} {pins : List (Addr × Obj)} {σ : St} {H : Hp} {s s' : Shared}
end
/-! ### raise C(..), C a class without __init__ -/
section
variable {X : Cx} {x : Str} {C : Addr} {bm : List Value} {B newId initId : String} {np cpos pos : Pos} {e₀ : Expr} {rest : List Expr} {t : TA} {E : XK}
end
/-! ### a def that may raise -/
section
variable {P : Program} {w : World} {K : PySem.W.Frag} {mg : Str → Option Value} {base : Heap}
end
end L2

set_option Elab.async false
set_option linter.all false
set_option maxRecDepth 100000
set_option maxHeartbeats 4000000
namespace L2
open PySem PySem.Spec PyProof.Rows
/-! ### isinstance of a caught exception -/
section
open PySem.W PySem.Calls
end
/-! ### isinstance, of anything and of a caught exception -/
section
variable {X : Cx} {K : PySem.W.Frag} {H : Hp} {Q : VK}
end
/-! ### try: f(..) except C as n: y = n -/
section
variable {X : Cx} {pins : List (Addr × Obj)} {σ : St} {H : Hp} {s : Shared}
/-! the exception is caught: it is tracked from here on -/
end
end L2

set_option Elab.async false
set_option linter.all false
set_option maxRecDepth 100000
set_option maxHeartbeats 4000000
namespace L2
open PySem PySem.Spec PyProof.Rows
/-! ### what the written part says of the classes -/
section
open PySem.W
end
/-! ### list.index of flat things -/
section
variable {X : Cx} {K : PySem.W.Frag}
end
/-! ### the same words, closed: a row of literals alone would be run while its term is read -/
section
variable {X : Cx} {st : Stmt} {rest : List Stmt} {t u : TS} {e : Expr} {es : List Expr} {te : TE} {ta : TA}
end
end L2

set_option Elab.async false
set_option linter.all false
set_option maxRecDepth 100000
set_option maxHeartbeats 1000000
namespace L2
open PySem PySem.Spec PyProof.Rows
/-! ### sorted(e, reverse = True), of ints -/
section
variable {X : Cx} {K : PySem.W.Frag}
end
end L2

set_option Elab.async false
set_option linter.all false
set_option maxRecDepth 100000
set_option maxHeartbeats 2000000
namespace L2
open PySem PySem.Spec PyProof.Rows
/-! ### zip over two lists -/
section
variable {X : Cx} {K : PySem.W.Frag}
end
section
variable {K : PySem.W.Frag} {g : TG} {tb : TS} {D : Ends} {σ : St} {H : Hp} {R : It → Hp → Prop}
end
end L2

set_option Elab.async false
set_option linter.all false
set_option maxRecDepth 100000
set_option maxHeartbeats 2000000
namespace L2
open PySem PySem.Spec PyProof.Rows
section
variable {X : Cx} {K : PySem.W.Frag}
/-! ### list(range(n)) -/
end
/-! ### comprehensions of things with new objects behind them -/
section
variable {J : It} {n : Nat} {H1 : Hp} {X : Nat → V → Hp → Prop} {g : TG} {tt : TT} {te : TE} {σ0 : St} {Q : VK}
theorem comp_A (w : Wk J n H1 X) (hn : n < sizeLine) (Pv : Addr → Nat → List V → St → Hp → Prop) (h0 : ∀ acc H, H1 acc = none → Same H1 H → H acc = some (.lst []) → Pv acc 0 [] σ0 H)
    (hP : ∀ acc i ys σ H H', Same H H' → Pv acc i ys σ H → Pv acc i ys σ H')
    (turn : ∀ acc i x ys σ H (R : St → V → Hp → Prop) (S : St → Hp → Prop), i < n → H1 acc = none → Same H1 H → H acc = some (.lst ys) → X i x H → Pv acc i ys σ H →
      (∀ σ2 v H5, Same H H5 → (∀ H6, Chg acc H5 H6 → Pv acc (i + 1) (ys ++ [v]) σ2 H6) → R σ2 v H5) → (∀ σ2 H5, Same H H5 → Pv acc (i + 1) ys σ2 H5 → S σ2 H5) →
      g x σ H fun σ2 H3 => tt σ2 H3 fun b H4 => br b (te σ2 H4 fun v H5 => R σ2 v H5) (S σ2 H4))
    (fin : ∀ acc ys σ H, H1 acc = none → Same H1 H → H acc = some (.lst ys) → Pv acc n ys σ H → Q (.ref acc) H) : compW J g tt te σ0 H1 Q := by
  unfold compW
  intro acc H2 hf hs ha
  refine ⟨fun i m ys σ H => m = n - i ∧ i ≤ n ∧ ys.length ≤ i ∧ Same H1 H ∧ H acc = some (.lst ys) ∧ Pv acc i ys σ H, ⟨n, by simp, Nat.zero_le _, Nat.le_refl _, hs, ha, h0 acc H2 hf hs ha⟩, ?_⟩
  rintro i m ys σ H ⟨rfl, hi, hl, s, hy, P⟩
  refine ⟨hy, by omega, ?_⟩
  by_cases hlt : i < n
  · refine .inr ⟨w.go i H s hlt, fun x H' y => ?_⟩
    obtain ⟨s1, x1⟩ := w.yld i H x H' s hlt y
    refine turn acc i x ys σ H' (fun σ2 v H5 => cPut _ acc ys i (n - i) σ2 v H5) (fun σ2 H4 => cSkip _ ys i (n - i) σ2 H4) hlt hf (s.trans s1) (s1 _ _ hy) x1 (hP _ _ _ _ _ _ s1 P) ?_ ?_
    · intro σ2 v H5 s5 q
      have s15 := s1.trans s5
      unfold cPut
      refine ⟨s15 _ _ hy, fun H6 c6 h6 => ⟨n - (i + 1), by omega, rfl, hlt, by rw [List.length_append]; simp; omega, (s.trans s15).chg hf c6, h6, q H6 c6⟩⟩
    · intro σ2 H5 s5 q
      have s15 := s1.trans s5
      unfold cSkip
      exact ⟨n - (i + 1), by omega, rfl, hlt, by omega, s.trans s15, s15 _ _ hy, q⟩
  · have e : i = n := by omega
    subst e
    exact .inl ⟨w.stop H s, fin acc ys σ H hf s hy P⟩
end
end L2

set_option Elab.async false
set_option linter.all false
set_option maxRecDepth 100000
set_option maxHeartbeats 2000000
/-! ### zip over three lists: iterators at n, n + 1, n + 2, what is walked at n + 3, what is told at n + 4, the zip at n + 5 -/
namespace PySem
open Sem (wp)
namespace F
end F
section
variable {prog : Program} {w : World} {A : Around} {E : Value → Shared → Prop} {s : Shared}
end
section
variable {prog : Program} {w : World} {A : Around} {E : Value → Shared → Prop} {s : Shared}
end
end PySem

set_option Elab.async false
set_option linter.all false
set_option maxRecDepth 100000
set_option maxHeartbeats 2000000
namespace L2
open PySem PySem.Spec PyProof.Rows
/-! ### zip over three lists of one length -/
section
variable {X : Cx} {K : PySem.W.Frag}
end
section
variable {K : PySem.W.Frag} {H : Hp} {R : It → Hp → Prop}
end
end L2

set_option Elab.async false
set_option linter.all false
set_option maxRecDepth 100000
set_option maxHeartbeats 2000000
namespace L2
open PySem PySem.Spec PyProof.Rows
/-! ### xs.pop() -/
section
variable {X : Cx} {K : PySem.W.Frag}
end
end L2

set_option Elab.async false
set_option linter.all false
set_option maxRecDepth 100000
set_option maxHeartbeats 2000000
namespace L2
open PySem PySem.Spec PyProof.Rows
/-! ### sorted(e), of ints -/
section
variable {X : Cx} {K : PySem.W.Frag}
@[irreducible] def rSoA (K : PySem.W.Frag) (a : Addr) (H : Hp) (Q : VK) : Prop := ∃ ns : List Int, SqL K H a (ns.map V.int) ∧ ns.length < 64 ∧ ∀ p H' (ms : List Int), H p = none → Same H H' → ms.Perm ns → ms.Pairwise (· ≤ ·) → H' p = some (.lst (ms.map V.int)) → Q (.ref p) H'
def rSoM (K : PySem.W.Frag) : List V → Hp → VK → Prop := fun xs H Q => match xs with
  | [.ref p] => rSoA K p H Q
  | _ => False
theorem cSortK (hK : X.K = K) : CallR X (.builtin "sorted") (rSoM K) := fun pins s σ H xs us Q I r h => by
  subst hK
  unfold rSoM at h
  split at h
  · unfold rSoA at h
    obtain ⟨ns, h1, h2, h3⟩ := h
    obtain ⟨u1, rfl, rx⟩ := vals1 r
    cases rx
    obtain ⟨its, r', pl, hz⟩ := I.list h1
    have hi := intsAre_of r'
    have hlen := hi.length
    refine sorted_ints pl.isList hi (by omega) fun out ms a1 a2 a3 => ?_
    obtain ⟨e', he'⟩ := sortedAll_at s.heap its out
    have hf : H (s.heap.objs.size + 1) = none := I.hok.fresh (Nat.le_succ _)
    have rl := vals_ints a1
    refine ⟨.ref _, _, I.laid (t' := s.toks) (o := .lst (ms.map V.int)) (fun b ob q => sortedAll_old q) (Nat.le_succ _) ?_, rfl, h3 _ _ ms hf (Same.upd hf) a2 a3 upd_same⟩
    exact ⟨by rw [List.length_map, a2.length_eq, ← List.length_map (f := V.int)]; exact hz, out.toList, e', rl, by rw [he']⟩
  · exact h.elim
theorem so_rd {a : Addr} {H : Hp} {Q : VK} {ns : List Int} (h : SqL K H a (ns.map V.int)) (hl : ns.length < 64) (q : ∀ p H' (ms : List Int), H p = none → Same H H' → ms.Perm ns → ms.Pairwise (· ≤ ·) → H' p = some (.lst (ms.map V.int)) → Q (.ref p) H') : rSoA K a H Q := by unfold rSoA; exact ⟨ns, h, hl, q⟩
end
end L2

set_option Elab.async false
set_option linter.all false
set_option maxRecDepth 100000
set_option maxHeartbeats 2000000
namespace L2
open PySem PySem.Spec PyProof.Rows
/-! ### tuple(e) of a list; tuples walked in a comprehension -/
section
variable {X : Cx} {K : PySem.W.Frag}
@[irreducible] def rTupA (K : PySem.W.Frag) (p : Addr) (H : Hp) (Q : VK) : Prop := ∃ ys, SqL K H p ys ∧ ∀ l H', H l = none → Same H H' → H' l = some (.tup ys) → Q (.ref l) H'
def rTupM (K : PySem.W.Frag) : List V → Hp → VK → Prop := fun xs H Q => match xs with
  | [.ref p] => rTupA K p H Q
  | _ => False
theorem cTupK (hK : X.K = K) : CallR X (.type "tuple") (rTupM K) := fun pins s σ H xs us Q I r h => by
  subst hK
  unfold rTupM at h
  split at h
  · unfold rTupA at h
    obtain ⟨ys, h1, h2⟩ := h
    exact call_tuple_of pins s σ H _ us Q I r ⟨_, ys, rfl, .inl ⟨h1, fun l hl => h2 l _ hl (Same.upd hl) upd_same⟩⟩
  · exact h.elim
theorem tupL_rd {p : Addr} {H : Hp} {Q : VK} {ys : List V} (h : SqL K H p ys) (q : ∀ l H', H l = none → Same H H' → H' l = some (.tup ys) → Q (.ref l) H') : rTupA K p H Q := by unfold rTupA; exact ⟨ys, h, q⟩
end
theorem Same.seqT {K : PySem.W.Frag} {H H' : Hp} {a : Addr} {xs : List V} (e : Same H H') (h : H a = some (.tup xs)) : SqT K H' a xs := SqT.of (e _ _ h)
theorem Wk.tup {K : PySem.W.Frag} {a : Addr} {xs : List V} {H1 : Hp} (h : H1 a = some (.tup xs)) : Wk (Itt K a) xs.length H1 fun i x _ => xs[i]? = some x :=
  ⟨fun i H s hi => ⟨xs, xs[i], Same.seqT s h, by simp [hi]⟩, fun H s => ⟨xs, Same.seqT s h, Nat.le_refl _⟩, fun i H x H' s _ y => by
    obtain ⟨e, y⟩ := y
    subst e
    exact ⟨Same.refl _, y xs (Same.seqT s h)⟩⟩
end L2

set_option Elab.async false
set_option linter.all false
set_option maxRecDepth 100000
set_option maxHeartbeats 1000000
namespace G
open PySem L2
def top (i : Nat) : Stmt := PySem.Challenge.pw_hostfields_k07_whole_more_hosts_help.main.body.getD i (.Pass ⟨0, 0, 0, 0⟩)
abbrev s_is_whole : Stmt := top 5
theorem sc_is_whole : FnScope ["thing"] ["thing"] (defScope s_is_whole) := ⟨rfl, rfl, rfl, by decide +kernel, rfl, by decide +kernel, by decide +kernel⟩
abbrev s_is_from : Stmt := top 6
theorem sc_is_from : FnScope ["thing", "least"] ["thing", "least"] (defScope s_is_from) := ⟨rfl, rfl, rfl, by decide +kernel, rfl, by decide +kernel, by decide +kernel⟩
abbrev s_is_between : Stmt := top 7
theorem sc_is_between : FnScope ["thing", "least", "most"] ["thing", "least", "most"] (defScope s_is_between) := ⟨rfl, rfl, rfl, by decide +kernel, rfl, by decide +kernel, by decide +kernel⟩
abbrev s_look_battle : Stmt := top 11
theorem sc_look_battle : FnScope ["battle", "number", "field"] ["battle"] (defScope s_look_battle) := ⟨rfl, rfl, rfl, by decide +kernel, rfl, by decide +kernel, by decide +kernel⟩
abbrev s_has_size : Stmt := top 12
theorem sc_has_size : FnScope ["battle"] ["battle"] (defScope s_has_size) := ⟨rfl, rfl, rfl, by decide +kernel, rfl, by decide +kernel, by decide +kernel⟩
abbrev s_are_hosts : Stmt := top 13
theorem sc_are_hosts : FnScope ["first", "second"] ["first", "second"] (defScope s_are_hosts) := ⟨rfl, rfl, rfl, by decide +kernel, rfl, by decide +kernel, by decide +kernel⟩
abbrev s_is_field : Stmt := top 14
theorem sc_is_field : FnScope ["first", "second", "field"] ["first", "second", "field"] (defScope s_is_field) := ⟨rfl, rfl, rfl, by decide +kernel, rfl, by decide +kernel, by decide +kernel⟩
abbrev s_is_table : Stmt := top 15
theorem sc_is_table : FnScope ["many_rows", "many_numbers", "rows"] ["many_rows", "many_numbers", "rows"] (defScope s_is_table) := ⟨rfl, rfl, rfl, by decide +kernel, rfl, by decide +kernel, by decide +kernel⟩
abbrev s_is_table_row : Stmt := top 16
theorem sc_is_table_row : FnScope ["many_numbers", "row"] ["many_numbers", "row"] (defScope s_is_table_row) := ⟨rfl, rfl, rfl, by decide +kernel, rfl, by decide +kernel, by decide +kernel⟩
abbrev s_won : Stmt := top 17
theorem sc_won : FnScope ["field", "x", "y"] ["field", "x", "y"] (defScope s_won) := ⟨rfl, rfl, rfl, by decide +kernel, rfl, by decide +kernel, by decide +kernel⟩
abbrev s_pay : Stmt := top 18
theorem sc_pay : FnScope ["battle", "field", "x", "y"] ["battle", "field", "x", "y"] (defScope s_pay) := ⟨rfl, rfl, rfl, by decide +kernel, rfl, by decide +kernel, by decide +kernel⟩
abbrev s_rises : Stmt := top 19
theorem sc_rises : FnScope ["battle"] ["battle"] (defScope s_rises) := ⟨rfl, rfl, rfl, by decide +kernel, rfl, by decide +kernel, by decide +kernel⟩
abbrev s_field_rises : Stmt := top 20
theorem sc_field_rises : FnScope ["first", "second", "field", "x", "y", "here"] ["first", "second", "field"] (defScope s_field_rises) := ⟨rfl, rfl, rfl, by decide +kernel, rfl, by decide +kernel, by decide +kernel⟩
abbrev s__law_mix : Stmt := top 22
theorem sc__law_mix : FnScope ["_law_number", "_law_k", "_law_mixed"] ["_law_number", "_law_k"] (defScope s__law_mix) := ⟨rfl, rfl, rfl, by decide +kernel, rfl, by decide +kernel, by decide +kernel⟩
abbrev s__law_cell_at : Stmt := top 23
theorem sc__law_cell_at : FnScope ["_law_script", "_law_k"] ["_law_script", "_law_k"] (defScope s__law_cell_at) := ⟨rfl, rfl, rfl, by decide +kernel, rfl, by decide +kernel, by decide +kernel⟩
abbrev s__law_left : Stmt := top 24
theorem sc__law_left : FnScope ["_law_script", "_law_k", "_law_cell"] ["_law_script", "_law_k"] (defScope s__law_left) := ⟨rfl, rfl, rfl, by decide +kernel, rfl, by decide +kernel, by decide +kernel⟩
abbrev s__law_draw : Stmt := top 25
theorem sc__law_draw : FnScope ["_law_left_here", "_law_base", "_law_mixed", "_law_digit"] ["_law_left_here", "_law_base"] (defScope s__law_draw) := ⟨rfl, rfl, rfl, by decide +kernel, rfl, by decide +kernel, by decide +kernel⟩
abbrev s__law_some : Stmt := top 26
theorem sc__law_some : FnScope ["_law_left_here", "_law_far"] ["_law_left_here"] (defScope s__law_some) := ⟨rfl, rfl, rfl, by decide +kernel, rfl, by decide +kernel, by decide +kernel⟩
abbrev s__law_rule : Stmt := top 27
theorem sc__law_rule : FnScope ["_law_left_here", "_law_first", "_law_second", "_law_kind", "_law_worth"] ["_law_left_here", "_law_first", "_law_second"] (defScope s__law_rule) := ⟨rfl, rfl, rfl, by decide +kernel, rfl, by decide +kernel, by decide +kernel⟩
abbrev s__law_battle : Stmt := top 28
theorem sc__law_battle : FnScope ["_law_left_here", "_law_most", "_law_fields", "_law_first", "_law_second"] ["_law_left_here", "_law_most", "_law_fields"] (defScope s__law_battle) := ⟨rfl, rfl, rfl, by decide +kernel, rfl, by decide +kernel, by decide +kernel⟩
abbrev s__law_deep : Stmt := top 29
theorem sc__law_deep : FnScope ["_law_thing"] ["_law_thing"] (defScope s__law_deep) := ⟨rfl, rfl, rfl, by decide +kernel, rfl, by decide +kernel, by decide +kernel⟩
abbrev s__law_paid : Stmt := top 30
theorem sc__law_paid : FnScope ["_law_field", "_law_x", "_law_y"] ["_law_field", "_law_x", "_law_y"] (defScope s__law_paid) := ⟨rfl, rfl, rfl, by decide +kernel, rfl, by decide +kernel, by decide +kernel⟩
abbrev s__law_rises : Stmt := top 31
theorem sc__law_rises : FnScope ["_law_battle_here", "_law_first", "_law_second", "_law_fields", "_law_one", "_law_x", "_law_y", "_law_here"] ["_law_battle_here"] (defScope s__law_rises) := ⟨rfl, rfl, rfl, by decide +kernel, rfl, by decide +kernel, by decide +kernel⟩
abbrev s__law_rising : Stmt := top 32
theorem sc__law_rising : FnScope ["_law_left_here", "_law_first", "_law_second", "_law_steps", "_law_rows", "_law_x"] ["_law_left_here", "_law_first", "_law_second"] (defScope s__law_rising) := ⟨rfl, rfl, rfl, by decide +kernel, rfl, by decide +kernel, by decide +kernel⟩
abbrev s_law : Stmt := top 33
theorem sc_law : FnScope ["_law_script", "_law_cell", "_law_left_here", "_law_battle_here", "_law_first", "_law_second", "_law_fields", "_law_rows", "_law_bent", "_law_x", "_law_y", "_law_plain", "_law_listed", "_law_some_here", "_law_asked", "_law_handed", "_law_told", "_law_k", "_law_wins"] ["_law_script"] (defScope s_law) := ⟨rfl, rfl, rfl, by decide +kernel, rfl, by decide +kernel, by decide +kernel⟩
theorem nb_0 : (["number"] : List Str).Nodup := by decide +kernel
theorem nb_1 : (["row", "many_numbers"] : List Str).Nodup := by decide +kernel
theorem nb_2 : (["field", "battle"] : List Str).Nodup := by decide +kernel
theorem nb_3 : (["_law_x", "_law_second", "_law_left_here"] : List Str).Nodup := by decide +kernel
theorem nb_4 : (["_law_y", "_law_left_here"] : List Str).Nodup := by decide +kernel
theorem nb_5 : (["_law_k", "_law_left_here", "_law_first", "_law_second"] : List Str).Nodup := by decide +kernel
theorem nb_6 : (["_law_part"] : List Str).Nodup := by decide +kernel
theorem nb_7 : (["_law_side", "_law_left_here"] : List Str).Nodup := by decide +kernel
theorem nb_8 : (["_law_k", "_law_left_here"] : List Str).Nodup := by decide +kernel
theorem nb_9 : (["_law_y", "_law_steps", "_law_x"] : List Str).Nodup := by decide +kernel
theorem nb_10 : (["_law_field"] : List Str).Nodup := by decide +kernel
theorem nb_11 : (["_law_one", "_law_first", "_law_second", "_law_listed", "_law_k", "_law_y"] : List Str).Nodup := by decide +kernel
structure Nm (mg : Str → Option Value) : Prop where
  all_ : mg "all" = none
  bool_ : mg "bool" = none
  enumerate_ : mg "enumerate" = none
  int_ : mg "int" = none
  isinstance_ : mg "isinstance" = none
  len_ : mg "len" = none
  list_ : mg "list" = none
  range_ : mg "range" = none
  sorted_ : mg "sorted" = none
  sum_ : mg "sum" = none
  tuple_ : mg "tuple" = none
/-! ### how a promise is read -/
local macro_rules | `(tactic| walk_at "hp") => `(tactic| first | assumption | (refine Same.at (H := ?H) ?s ?e; (case s => assumption); (case e => walk_at "hp")) | (refine Chg.at (a := ?a) (H := ?H) ?c ?e ?n; (case c => assumption); (case n => walk_at "ne"); (case e => walk_at "hp")) | fail "hp")
local macro_rules | `(tactic| walk_at "ne") => `(tactic| first | assumption | (apply Ne.symm; assumption) | fail "ne")
local macro_rules | `(tactic| walk_at "wh") => `(tactic| (conv => whnf))
local macro_rules | `(tactic| walk_at "st") => `(tactic| (conv => whnf); first
  | refine mulR_rd (by omega) (by omega) ?_
  | refine mulL_rd (by omega) (by omega) ?_
  | refine modG_rd (by omega) (fun r h0 h1 => ?_)
  | refine div_rd (by omega) (by omega) ?_
  | (refine pow_rd ⟨by decide, by decide, by decide⟩ ?_; simp only [Int.reduceToNat, Int.reducePow])
  | (refine ixT_rd (xs := ?xs) (v := ?v) ?hp ?ev ?_; (case hp => walk_at "hp"); (case ev => rfl))
  | (refine ixL_rd (xs := ?xs) (v := ?v) ?hp ?ev ?_; (case hp => walk_at "hp"); (case ev => rfl))
  | refine newT_rd (fun p H' hf hs ha => ?_)
  | refine newL_rd (fun p H' hf hs ha => ?_)
  | refine isiI_rd ?_
  | (refine isiT_rd (xs := ?xs) ?hp ?_; (case hp => walk_at "hp"))
  | (refine isiL_rd (xs := ?xs) ?hp ?_; (case hp => walk_at "hp"))
  | (refine lenT_rd (xs := ?xs) ?hp ?_; (case hp => walk_at "hp"))
  | (refine lenL_rd (xs := ?xs) ?hp ?_; (case hp => walk_at "hp"))
  | refine isiB_rd ?_
  | refine br_T ?_
  | refine br_F ?_
  | refine br_dT (by omega) ?_
  | refine br_dF (by omega) ?_
  | fail "st")
section
variable {P : Program} {w : World} {K : PySem.W.Frag} {mg : Str → Option Value} {base : Heap}
/-- a list that is drawn from: its number, its kind, how often -/
def LeftAt (H : Hp) (a : Addr) (b : Int) : Prop := ∃ x y z : Int, H a = some (.lst [.int x, .int y, .int z]) ∧ (y = 1 ∨ (y = 0 ∧ 0 ≤ x ∧ x < 2147483629)) ∧ 0 ≤ z ∧ z ≤ b
theorem LeftAt.same {H H' : Hp} {a : Addr} {b : Int} (h : LeftAt H a b) (s : Same H H') : LeftAt H' a b := by
  obtain ⟨x, y, z, e, r⟩ := h
  exact ⟨x, y, z, s _ _ e, r⟩
local macro_rules | `(tactic| walk_at "la") => `(tactic| first | assumption | (refine LeftAt.same (H := ?H) ?l ?s; (case s => assumption); (case l => walk_at "la")) | fail "la")
theorem LeftAt.up {H : Hp} {a : Addr} {b c : Int} (h : LeftAt H a b) (l : b ≤ c) : LeftAt H a c := by
  obtain ⟨x, y, z, e1, e2, e3, e4⟩ := h
  exact ⟨x, y, z, e1, e2, e3, by omega⟩
theorem LeftAt.ne {H : Hp} {a p : Addr} {b : Int} (h : LeftAt H a b) (f : H p = none) : p ≠ a := by
  obtain ⟨x, y, z, e, _⟩ := h
  exact Ne.symm (ne_of_none e f)
local macro_rules | `(tactic| walk_at "ne") => `(tactic| first | assumption | (apply Ne.symm; assumption) | (refine LeftAt.ne (H := ?H) (b := ?b) ?l ?f; (case f => assumption); (case l => walk_at "la")) | fail "ne")
@[irreducible] def sp__law_mix : Sp := fun vs H Q _ => ∃ n k : Int, vs = [.int n, .int k] ∧ 0 ≤ n ∧ n < 2147483629 ∧ 0 ≤ k ∧ k ≤ 10000000 ∧ ∀ r : Int, 0 ≤ r → r < 2147483587 → Q (.int r) H
theorem mixed_rd {H : Hp} {n k : Int} {Q : VK} {E : XK} (h0 : 0 ≤ n) (h1 : n < 2147483629) (h2 : 0 ≤ k) (h3 : k ≤ 10000000) (q : ∀ r : Int, 0 ≤ r → r < 2147483587 → Q (.int r) H) : sp__law_mix [.int n, .int k] H Q E := by
  unfold sp__law_mix; exact ⟨n, k, rfl, h0, h1, h2, h3, q⟩
theorem ok__law_mix {f : Addr} {fd : FuncData} (F : Fun K "_law_mix" "_law_mix" s__law_mix f fd) (N : Nm mg) : FnOk P w K mg base CX0 1 f fd ["_law_number", "_law_k"] sp__law_mix := by
  refine F.ok sc__law_mix (fun vs H Q E h => by unfold sp__law_mix at h; obtain ⟨n, k, rfl, _⟩ := h; rfl) (fun cdv A outer s H vs Q E hr h => ?_)
  unfold sp__law_mix at h
  obtain ⟨n, k, rfl, h1, h2, h3, h4, q⟩ := h
  refine ⟨_, (pss_cons (psS (i := 2) sc__law_mix.nd (pe_op oMod (pe_op oMul (pe_op oAdd (pe_op oAdd (pe_op oMul (pq 0) (pq 0)) (pe_op oMul (pq 1) (pq 0))) (pe_op oMul (pe_op oMul pe_int (pq 1)) (pq 1))) pe_int) pe_int))
      (pss_one (ps_ret (pe_op oMod (pe_op oMul (pq 2) (pq 2)) pe_int)))), ?_⟩
  repeat walk_at "st"
  walk_at "wh"
  exact q _ (by assumption) (by assumption)
@[irreducible] def sp__law_cell_at : Sp := fun vs H Q _ => ∃ (a : Addr) (z : Int), vs = [.ref a, .int 0] ∧ H a = some (.lst [.int z]) ∧ Q (.int z) H
theorem cell_at_rd {H : Hp} {a : Addr} {z : Int} {Q : VK} {E : XK} (h : H a = some (.lst [.int z])) (q : Q (.int z) H) : sp__law_cell_at [.ref a, .int 0] H Q E := by unfold sp__law_cell_at; exact ⟨a, z, rfl, h, q⟩
theorem ok__law_cell_at {f : Addr} {fd : FuncData} (F : Fun K "_law_cell_at" "_law_cell_at" s__law_cell_at f fd) (N : Nm mg) : FnOk P w K mg base CX0 1 f fd ["_law_script", "_law_k"] sp__law_cell_at := by
  refine F.ok sc__law_cell_at (fun vs H Q E h => by unfold sp__law_cell_at at h; obtain ⟨_, _, rfl, _⟩ := h; rfl) (fun cdv A outer s H vs Q E hr h => ?_)
  unfold sp__law_cell_at at h
  obtain ⟨a, z, rfl, h, q⟩ := h
  refine ⟨_, (pss_cons (psIf (ptC oLt (pq 1) (pB (cLenK (K := K) rfl) N.len_ bt_len (pa_cons (pq 0) pa_nil))) (pss_one (ps_ret (peIxK (K := K) rfl (pq 0) (pq 1)))) pss_nil)
      (pss_one (ps_ret pe_int))), ?_⟩
  walk_at "wh"
  refine lenL_rd h ?_
  walk_at "wh"
  refine br_dT (by show (0 : Int) < ((1 : Nat) : Int); decide) ?_
  walk_at "wh"
  refine ixL_rd (v := .int z) h rfl ?_
  walk_at "wh"
  exact q
@[irreducible] def sp__law_left : Sp := fun vs H Q _ => ∃ (a : Addr) (z : Int), vs = [.ref a, .int 0] ∧ H a = some (.lst [.int z]) ∧ ∀ p H', H p = none → Same H H' → LeftAt H' p 0 → Q (.ref p) H'
theorem left_rd {H : Hp} {a : Addr} {z : Int} {Q : VK} {E : XK} (h : H a = some (.lst [.int z])) (q : ∀ p H', H p = none → Same H H' → LeftAt H' p 0 → Q (.ref p) H') : sp__law_left [.ref a, .int 0] H Q E := by unfold sp__law_left; exact ⟨a, z, rfl, h, q⟩
theorem ok__law_left {f : Addr} {fd : FuncData} (F : Fun K "_law_left" "_law_left" s__law_left f fd) (N : Nm mg) (D__law_cell_at : Def P w K mg base CX0 1 "_law_cell_at" ["_law_script", "_law_k"] sp__law_cell_at) : FnOk P w K mg base CX0 2 f fd ["_law_script", "_law_k"] sp__law_left := by
  refine F.ok sc__law_left (fun vs H Q E h => by unfold sp__law_left at h; obtain ⟨_, _, rfl, _⟩ := h; rfl) (fun cdv A outer s H vs Q E hr h => ?_)
  unfold sp__law_left at h
  obtain ⟨a, z, rfl, h, q⟩ := h
  refine ⟨_, (pss_cons (psS (i := 2) sc__law_left.nd (pD D__law_cell_at hr pass0 (pa_cons (pq 0) (pa_cons (pq 1) pa_nil))))
      (pss_cons (psIf (ptC oLt (pq 2) (pe_op oPow pe_int pe_int)) (pss_one (ps_ret (peLst (pa_cons (pe_op oMod (pq 2) pe_int) (pa_cons pe_int (pa_cons pe_int pa_nil)))))) pss_nil)
      (pss_one (ps_ret (peLst (pa_cons (pe_op oSub (pq 2) (pe_op oPow pe_int pe_int)) (pa_cons pe_int (pa_cons pe_int pa_nil)))))))), ?_⟩
  walk_at "wh"
  refine cell_at_rd h ?_
  walk_at "st"
  walk_at "wh"
  refine br_dec (fun h => ?_) (fun h => ?_)
  · repeat walk_at "st"
    walk_at "wh"
    exact q _ _ (by assumption) (by assumption) ⟨_, _, _, by assumption, .inr ⟨rfl, by assumption, by assumption⟩, by omega, by omega⟩
  · repeat walk_at "st"
    walk_at "wh"
    exact q _ _ (by assumption) (by assumption) ⟨_, _, _, by assumption, .inl rfl, by omega, by omega⟩
@[irreducible] def sp__law_draw : Sp := fun vs H Q _ => ∃ (a : Addr) (m b : Int), vs = [.ref a, .int m] ∧ LeftAt H a b ∧ b ≤ 1000000 ∧ 0 < m ∧ m < 10 ^ 60 ∧ ∀ (d : Int) H', 0 ≤ d → d < m → Chg a H H' → LeftAt H' a (b + 1) → Q (.int d) H'
theorem draw_rd {H : Hp} {a : Addr} {m b : Int} {Q : VK} {E : XK} (hL : LeftAt H a b) (hb : b ≤ 1000000) (h0 : 0 < m) (h1 : m < 10 ^ 60) (q : ∀ (d : Int) H', 0 ≤ d → d < m → Chg a H H' → LeftAt H' a (b + 1) → Q (.int d) H') : sp__law_draw [.ref a, .int m] H Q E := by
  unfold sp__law_draw; exact ⟨a, m, b, rfl, hL, hb, h0, h1, q⟩
theorem ok__law_draw {f : Addr} {fd : FuncData} (F : Fun K "_law_draw" "_law_draw" s__law_draw f fd) (N : Nm mg) (D__law_mix : Def P w K mg base CX0 1 "_law_mix" ["_law_number", "_law_k"] sp__law_mix) : FnOk P w K mg base CX0 2 f fd ["_law_left_here", "_law_base"] sp__law_draw := by
  refine F.ok sc__law_draw (fun vs H Q E h => by unfold sp__law_draw at h; obtain ⟨a, m, b, rfl, _⟩ := h; rfl) (fun cdv A outer s H vs Q E hr h => ?_)
  unfold sp__law_draw at h
  obtain ⟨a, m, b, rfl, ⟨x, y, z, hl, hy, hz0, hz1⟩, hb, hm0, hm1, q⟩ := h
  have hu := hu40 hr
  refine ⟨_, (pss_cons (ps_asg (pe_op oAdd (peIxK (K := K) rfl (pq 0) pe_int) pe_int) (pg_sub (pq 0) pe_int setM))
      (pss_cons (psIf (ptC (oEqK (K := K) rfl (by exact hu)) (peIxK (K := K) rfl (pq 0) pe_int) pe_int) (pss_cons (psS (i := 2) sc__law_draw.nd (pD D__law_mix hr pass0 (pa_cons (peIxK (K := K) rfl (pq 0) pe_int) (pa_cons (peIxK (K := K) rfl (pq 0) pe_int) pa_nil))))
      (pss_cons (psIf (ptC oGt (pq 1) (pe_op oPow pe_int pe_int)) (pss_one (ps_ret (pe_op oMod (pe_op oMul (pq 2) (pe_op oAdd (pe_op oPow (pD D__law_mix hr pass0 (pa_cons (peIxK (K := K) rfl (pq 0) pe_int) (pa_cons (pe_op oAdd (peIxK (K := K) rfl (pq 0) pe_int) pe_int) pa_nil))) pe_int) pe_int)) (pq 1)))) pss_nil)
      (pss_one (ps_ret (pe_op oMod (pe_op oMod (pe_op oMul (pq 2) (pe_op oAdd (pq 2) pe_int)) pe_int) (pq 1)))))) pss_nil)
      (pss_cons (psS (i := 3) sc__law_draw.nd (pe_op oMod (peIxK (K := K) rfl (pq 0) pe_int) (pq 1)))
      (pss_cons (ps_asg (pe_op oDiv (peIxK (K := K) rfl (pq 0) pe_int) (pq 1)) (pg_sub (pq 0) pe_int setM))
      (pss_one (ps_ret (pq 3))))))), ?_⟩
  walk_at "st"
  walk_at "wh"
  refine set_rd hl (by rfl) (fun H1 c1 h1 => ?_)
  have h1 : H1 a = some (.lst [.int x, .int y, .int (z + 1)]) := h1
  walk_at "wh"
  refine ixL_rd (v := .int y) h1 rfl ?_
  walk_at "wh"
  refine br_dec (fun h => ?_) (fun h => ?_)
  · obtain ⟨hx0, hx1⟩ : 0 ≤ x ∧ x < 2147483629 := by omega
    subst h
    walk_at "wh"
    refine ixL_rd (v := .int x) h1 rfl ?_
    walk_at "wh"
    refine ixL_rd (v := .int (z + 1)) h1 rfl ?_
    walk_at "wh"
    refine mixed_rd hx0 hx1 (by omega) (by omega) (fun r r0 r1 => ?_)
    walk_at "st"
    walk_at "wh"
    refine br_dec (fun g => ?_) (fun g => ?_)
    · walk_at "wh"
      refine ixL_rd (v := .int x) h1 rfl ?_
      walk_at "wh"
      refine ixL_rd (v := .int (z + 1)) h1 rfl ?_
      walk_at "wh"
      refine mixed_rd hx0 hx1 (by omega) (by omega) (fun r2 r20 r21 => ?_)
      walk_at "wh"
      refine pow_rd ⟨by decide, by decide, by omega⟩ ?_
      walk_at "wh"
      refine mulL_rd (by omega) (by omega) ?_
      walk_at "wh"
      refine modG_rd (by omega) (fun d d0 d1 => ?_)
      walk_at "wh"
      exact q _ _ d0 d1 c1 ⟨_, _, _, h1, .inr ⟨rfl, hx0, hx1⟩, by omega, by omega⟩
    · walk_at "wh"
      refine mulL_rd (by omega) (by omega) ?_
      walk_at "wh"
      refine modG_rd (by omega) (fun d1 d10 d11 => ?_)
      walk_at "wh"
      refine modG_rd (by omega) (fun d d0 d1 => ?_)
      walk_at "wh"
      exact q _ _ d0 d1 c1 ⟨_, _, _, h1, .inr ⟨rfl, hx0, hx1⟩, by omega, by omega⟩
  · have hy1 : y = 1 := by omega
    subst hy1
    walk_at "wh"
    refine ixL_rd (v := .int x) h1 rfl ?_
    walk_at "wh"
    refine modG_rd (by omega) (fun d d0 d1 => ?_)
    walk_at "wh"
    refine ixL_rd (v := .int x) h1 rfl ?_
    walk_at "st"
    walk_at "wh"
    refine set_rd h1 (by rfl) (fun H2 c2 h2 => ?_)
    walk_at "wh"
    exact q _ _ d0 d1 (c1.trans c2) ⟨_, _, _, h2, .inl rfl, by omega, by omega⟩
theorem LeftAt.chg {H H' : Hp} {a p : Addr} {b : Int} (h : LeftAt H a b) (c : Chg p H H') (n : a ≠ p) : LeftAt H' a b := by
  obtain ⟨x, y, z, e, r⟩ := h
  exact ⟨x, y, z, c _ _ n e, r⟩
theorem LeftAt.some {H : Hp} {a : Addr} {b : Int} (h : LeftAt H a b) : ∃ o, H a = some o := by
  obtain ⟨x, y, z, e, r⟩ := h
  exact ⟨_, e⟩
theorem Chg.free' {a l : Addr} {H H' : Hp} (x : Chg a H H') (h : H' l = none) (n : l ≠ a) : H l = none := by
  cases e : H l with
  | none => rfl
  | some o =>
    have := x l o n e
    rw [h] at this
    cases this
@[irreducible] def sp__law_some : Sp := fun vs H Q _ => ∃ (a : Addr) (b : Int), vs = [.ref a] ∧ LeftAt H a b ∧ b ≤ 100000 ∧ ∀ (d : Int) H', Chg a H H' → LeftAt H' a (b + 2) → Q (.int d) H'
theorem some_rd {H : Hp} {a : Addr} {b : Int} {Q : VK} {E : XK} (hL : LeftAt H a b) (hb : b ≤ 100000) (q : ∀ (d : Int) H', Chg a H H' → LeftAt H' a (b + 2) → Q (.int d) H') : sp__law_some [.ref a] H Q E := by unfold sp__law_some; exact ⟨a, b, rfl, hL, hb, q⟩
theorem ok__law_some {f : Addr} {fd : FuncData} (F : Fun K "_law_some" "_law_some" s__law_some f fd) (N : Nm mg) (D__law_draw : Def P w K mg base CX0 2 "_law_draw" ["_law_left_here", "_law_base"] sp__law_draw) : FnOk P w K mg base CX0 3 f fd ["_law_left_here"] sp__law_some := by
  refine F.ok sc__law_some (fun vs H Q E h => by unfold sp__law_some at h; obtain ⟨_, _, rfl, _⟩ := h; rfl) (fun cdv A outer s H vs Q E hr h => ?_)
  unfold sp__law_some at h
  obtain ⟨a, b, rfl, hL, hb, q⟩ := h
  refine ⟨_, (pss_cons (psS (i := 1) sc__law_some.nd (peIxK (K := K) rfl (peLst (pa_cons pe_int (pa_cons pe_int (pa_cons (pe_op oPow pe_int pe_int) pa_nil)))) (pD D__law_draw hr pass0 (pa_cons (pq 0) (pa_cons pe_int pa_nil)))))
      (pss_one (ps_ret (pe_op oSub (pD D__law_draw hr pass0 (pa_cons (pq 0) (pa_cons (pe_op oAdd (pe_op oMul pe_int (pq 1)) pe_int) pa_nil))) (pq 1))))), ?_⟩
  walk_at "st"
  walk_at "wh"
  refine newL_rd (fun p1 H1 f1 s1 h1 => ?_)
  walk_at "wh"
  refine draw_rd (hL.same s1) (by omega) (by omega) (by omega) (fun d1 H2 d10 d11 c2 L2 => ?_)
  have h12 := c2 _ _ (hL.ne f1) h1
  walk_at "wh"
  refine ixAny_rd h12 (by omega) (by simp only [List.length_cons, List.length_nil]; omega) ?_
  intro v hv
  obtain ⟨m, rfl, m1, m2⟩ : ∃ m : Int, v = .int m ∧ 1 ≤ m ∧ m ≤ 10 ^ 28 := by
    simp only [List.mem_cons, List.not_mem_nil, or_false] at hv
    rcases hv with rfl | rfl | rfl <;> exact ⟨_, rfl, by omega, by omega⟩
  clear hv
  walk_at "wh"
  refine mulL_rd (by decide) (by decide) ?_
  walk_at "wh"
  refine draw_rd L2 (by omega) (by omega) (by omega) (fun d3 H3 d30 d31 c3 L3 => ?_)
  walk_at "wh"
  exact q _ _ ((s1.toChg.trans c2).trans c3) (L3.up (by omega))
/-! ### whole numbers, sizes -/
@[irreducible] def sp_is_whole : Sp := fun vs H Q _ => ∃ i : Int, vs = [.int i] ∧ Q (.bl true) H
theorem isw_rd {H : Hp} {i : Int} {Q : VK} {E : XK} (q : Q (.bl true) H) : sp_is_whole [.int i] H Q E := by unfold sp_is_whole; exact ⟨i, rfl, q⟩
theorem ok_is_whole {f : Addr} {fd : FuncData} (F : Fun K "is_whole" "is_whole" s_is_whole f fd) (N : Nm mg) : FnOk P w K mg base CX0 1 f fd ["thing"] sp_is_whole := by
  refine F.ok sc_is_whole (fun vs H Q E h => by unfold sp_is_whole at h; obtain ⟨n, rfl, _⟩ := h; rfl) (fun cdv A outer s H vs Q E hr h => ?_)
  unfold sp_is_whole at h
  obtain ⟨i, rfl, q⟩ := h
  refine ⟨_, (pss_one (ps_ret (peAnd (pB (cIsiK (K := K) rfl) N.isinstance_ bt_isinstance (pa_cons (pq 0) (pa_cons (pTy N.int_ bt_int) pa_nil))) (pe_one (peNot (pB (cIsiK (K := K) rfl) N.isinstance_ bt_isinstance (pa_cons (pq 0) (pa_cons (pTy N.bool_ bt_bool) pa_nil)))))))), ?_⟩
  repeat walk_at "st"
  walk_at "wh"
  exact q
@[irreducible] def sp_is_from : Sp := fun vs H Q _ => ∃ i l : Int, vs = [.int i, .int l] ∧ Q (.bl (decide (l ≤ i))) H
theorem isf_rd {H : Hp} {i l : Int} {Q : VK} {E : XK} (q : Q (.bl (decide (l ≤ i))) H) : sp_is_from [.int i, .int l] H Q E := by unfold sp_is_from; exact ⟨i, l, rfl, q⟩
theorem ok_is_from {f : Addr} {fd : FuncData} (F : Fun K "is_from" "is_from" s_is_from f fd) (N : Nm mg) (D_is_whole : Def P w K mg base CX0 1 "is_whole" ["thing"] sp_is_whole) : FnOk P w K mg base CX0 2 f fd ["thing", "least"] sp_is_from := by
  refine F.ok sc_is_from (fun vs H Q E h => by unfold sp_is_from at h; obtain ⟨n, k, rfl, _⟩ := h; rfl) (fun cdv A outer s H vs Q E hr h => ?_)
  unfold sp_is_from at h
  obtain ⟨i, l, rfl, q⟩ := h
  refine ⟨_, (pss_one (ps_ret (peAnd (pD D_is_whole hr pass0 (pa_cons (pq 0) pa_nil)) (pe_one (peC oLe (pq 1) (pq 0)))))), ?_⟩
  walk_at "wh"
  refine isw_rd ?_
  walk_at "st"
  walk_at "wh"
  exact q
@[irreducible] def sp_is_between : Sp := fun vs H Q _ => ∃ i l m : Int, vs = [.int i, .int l, .int m] ∧ Q (.bl (decide (l ≤ i ∧ i ≤ m))) H
theorem isb_rd {H : Hp} {i l m : Int} {Q : VK} {E : XK} (q : Q (.bl (decide (l ≤ i ∧ i ≤ m))) H) : sp_is_between [.int i, .int l, .int m] H Q E := by unfold sp_is_between; exact ⟨i, l, m, rfl, q⟩
theorem dec_and1 {p q : Prop} [Decidable p] [Decidable q] (h : p) : decide (p ∧ q) = decide q := by simp [h]
theorem dec_and0 {p q : Prop} [Decidable p] [Decidable q] (h : ¬ p) : decide (p ∧ q) = false := by simp [h]
theorem ok_is_between {f : Addr} {fd : FuncData} (F : Fun K "is_between" "is_between" s_is_between f fd) (N : Nm mg) (D_is_from : Def P w K mg base CX0 2 "is_from" ["thing", "least"] sp_is_from) : FnOk P w K mg base CX0 3 f fd ["thing", "least", "most"] sp_is_between := by
  refine F.ok sc_is_between (fun vs H Q E h => by unfold sp_is_between at h; obtain ⟨n, k, _, rfl, _⟩ := h; rfl) (fun cdv A outer s H vs Q E hr h => ?_)
  unfold sp_is_between at h
  obtain ⟨i, l, m, rfl, q⟩ := h
  refine ⟨_, (pss_one (ps_ret (peAnd (pD D_is_from hr pass0 (pa_cons (pq 0) (pa_cons (pq 1) pa_nil))) (pe_one (peC oLe (pq 0) (pq 2)))))), ?_⟩
  walk_at "wh"
  refine isf_rd ?_
  walk_at "wh"
  refine br_dec (fun h => ?_) (fun h => ?_)
  · walk_at "wh"
    rw [dec_and1 h] at q
    exact q
  · walk_at "wh"
    rw [dec_and0 h] at q
    exact q
-- @@split
theorem all_rep (n : Nat) : ((List.range n).map fun _ => V.bl true) = ((List.range n).map fun _ => true).map V.bl := by rw [List.map_map]; rfl
theorem all_rep1 (n : Nat) : ((List.range n).map fun _ => true).all id = true := by rw [List.all_map]; exact all_true n
/-! ### fields and battles -/
inductive Fd where
  | more (w t : Int)
  | lead (w l : Int)
  | tab (g : Nat → Nat → Int)
def Fd.won : Fd → Nat → Nat → Int
  | .more w t, x, y => if x = y then t else if y < x then w else -w
  | .lead w l, x, y => if l ≤ (x : Int) - y then w else -w
  | .tab g, x, y => g x y
def Fd.Ok : Fd → Prop
  | .more w t => 1 ≤ w ∧ -w ≤ t ∧ t ≤ w
  | .lead w _ => 1 ≤ w
  | .tab _ => True
def FdAt (H : Hp) (p : Addr) (a c : Nat) : Fd → Prop
  | .more w t => H p = some (.tup [.str "more", .int w, .int t])
  | .lead w l => H p = some (.tup [.str "lead", .int w, .int l])
  | .tab g => ∃ q ps, H p = some (.tup [.str "table", .ref q]) ∧ GridAt H q ps (a + 1) (c + 1) g
theorem FdAt.same {H H' : Hp} {p : Addr} {a c : Nat} {f : Fd} (F : FdAt H p a c f) (s : Same H H') : FdAt H' p a c f := by
  cases f with
  | more w t => exact s _ _ F
  | lead w l => exact s _ _ F
  | tab g =>
    obtain ⟨q, ps, h1, h2⟩ := F
    exact ⟨q, ps, s _ _ h1, h2.same s⟩
theorem FdAt.some {H : Hp} {p : Addr} {a c : Nat} {f : Fd} (F : FdAt H p a c f) : ∃ xs, H p = some (.tup xs) := by
  cases f with
  | more w t => exact ⟨_, F⟩
  | lead w l => exact ⟨_, F⟩
  | tab g =>
    obtain ⟨q, ps, h1, h2⟩ := F
    exact ⟨_, h1⟩
structure BatAt (H : Hp) (b l : Addr) (ps : List Addr) (a c : Nat) (fs : List Fd) : Prop where
  out : H b = some (.tup [.int a, .int c, .ref l])
  lst : H l = some (.lst (ps.map V.ref))
  len : ps.length = fs.length
  fld : ∀ (i : Nat) p f, ps[i]? = some p → fs[i]? = some f → FdAt H p a c f ∧ f.Ok
abbrev OkB (a c : Nat) (fs : List Fd) : Prop := (a ≤ 10 ∧ c ≤ 10) ∧ 1 ≤ fs.length ∧ fs.length ≤ 5
theorem BatAt.same {H H' : Hp} {b l : Addr} {ps : List Addr} {a c : Nat} {fs : List Fd} (B : BatAt H b l ps a c fs) (s : Same H H') : BatAt H' b l ps a c fs := ⟨s _ _ B.out, s _ _ B.lst, B.len, fun i p f h1 h2 => ⟨(B.fld i p f h1 h2).1.same s, (B.fld i p f h1 h2).2⟩⟩
theorem BatAt.elt {H : Hp} {b l : Addr} {ps : List Addr} {a c : Nat} {fs : List Fd} (B : BatAt H b l ps a c fs) {i : Nat} {v : V} (e : (ps.map V.ref)[i]? = some v) : ∃ p f, v = .ref p ∧ ps[i]? = some p ∧ fs[i]? = some f ∧ FdAt H p a c f ∧ f.Ok := by
  rw [List.getElem?_map] at e
  obtain ⟨p, ep, rfl⟩ := Option.map_eq_some_iff.mp e
  obtain ⟨f, ef⟩ : ∃ f, fs[i]? = some f := ⟨_, List.getElem?_eq_getElem (by have := (List.getElem?_eq_some_iff.mp ep).1; have := B.len; omega)⟩
  exact ⟨p, f, rfl, ep, ef, B.fld i p f ep ef⟩
@[irreducible] def sp_won : Sp := fun vs H Q _ => ∃ (p : Addr) (a c x y : Nat) (f : Fd), vs = [.ref p, .int x, .int y] ∧ FdAt H p a c f ∧ x ≤ a ∧ y ≤ c ∧ Q (.int (f.won x y)) H
theorem won_rd {H : Hp} {p : Addr} {a c x y : Nat} {f : Fd} {Q : VK} {E : XK} (F : FdAt H p a c f) (h1 : x ≤ a) (h2 : y ≤ c) (q : Q (.int (f.won x y)) H) : sp_won [.ref p, .int x, .int y] H Q E := by unfold sp_won; exact ⟨p, a, c, x, y, f, rfl, F, h1, h2, q⟩
theorem ok_won {f : Addr} {fd : FuncData} (F : Fun K "won" "won" s_won f fd) (N : Nm mg) : FnOk P w K mg base CX0 1 f fd ["field", "x", "y"] sp_won := by
  refine F.ok sc_won (fun vs H Q E h => by unfold sp_won at h; obtain ⟨_, _, _, _, _, _, rfl, _⟩ := h; rfl) (fun cdv A outer s H vs Q E hr h => ?_)
  unfold sp_won at h
  obtain ⟨p, a, c, x, y, f, rfl, F, h1, h2, q⟩ := h
  have hu := hu40 hr
  refine ⟨_, (pss_cons (psIf (ptC (oEqK (K := K) rfl (by exact hu)) (peIxK (K := K) rfl (pq 0) pe_int) pe_str) (pss_one (ps_ret (peIxK (K := K) rfl (peIxK (K := K) rfl (peIxK (K := K) rfl (pq 0) pe_int) (pq 1)) (pq 2)))) pss_nil)
      (pss_cons (psIf (ptC (oEqK (K := K) rfl (by exact hu)) (peIxK (K := K) rfl (pq 0) pe_int) pe_str) (pss_one (ps_ret (peIf (ptC oGe (pe_op oSub (pq 1) (pq 2)) (peIxK (K := K) rfl (pq 0) pe_int)) (peIxK (K := K) rfl (pq 0) pe_int) (pe_un uNeg (peIxK (K := K) rfl (pq 0) pe_int))))) pss_nil)
      (pss_cons (psIf (ptC (oEqK (K := K) rfl (by exact hu)) (pq 1) (pq 2)) (pss_one (ps_ret (peIxK (K := K) rfl (pq 0) pe_int))) pss_nil)
      (pss_one (ps_ret (peIf (ptC oGt (pq 1) (pq 2)) (peIxK (K := K) rfl (pq 0) pe_int) (pe_un uNeg (peIxK (K := K) rfl (pq 0) pe_int)))))))), ?_⟩
  cases f with
  | more wt t =>
    have F : H p = some (.tup [.str "more", .int wt, .int t]) := F
    walk_at "wh"
    refine ixT_rd (v := .str "more") F rfl ?_
    walk_at "wh"
    refine br_dF (by decide) ?_
    walk_at "wh"
    refine ixT_rd (v := .str "more") F rfl ?_
    walk_at "wh"
    refine br_dF (by decide) ?_
    walk_at "wh"
    have q : Q (.int (if x = y then t else if y < x then wt else -wt)) H := q
    refine br_dec (fun h => ?_) (fun h => ?_)
    · walk_at "wh"
      refine ixT_rd (v := .int t) F rfl ?_
      walk_at "wh"
      rw [if_pos (by omega)] at q
      exact q
    · rw [if_neg (by omega)] at q
      walk_at "wh"
      refine br_dec (fun h => ?_) (fun h => ?_)
      · walk_at "wh"
        refine ixT_rd (v := .int wt) F rfl ?_
        walk_at "wh"
        rw [if_pos (by omega)] at q
        exact q
      · walk_at "wh"
        refine ixT_rd (v := .int wt) F rfl ?_
        walk_at "wh"
        rw [if_neg (by omega)] at q
        exact q
  | lead wt l =>
    have F : H p = some (.tup [.str "lead", .int wt, .int l]) := F
    walk_at "wh"
    refine ixT_rd (v := .str "lead") F rfl ?_
    walk_at "wh"
    refine br_dF (by decide) ?_
    walk_at "wh"
    refine ixT_rd (v := .str "lead") F rfl ?_
    walk_at "wh"
    refine br_dT rfl ?_
    walk_at "wh"
    refine ixT_rd (v := .int l) F rfl ?_
    walk_at "wh"
    have q : Q (.int (if l ≤ (x : Int) - y then wt else -wt)) H := q
    refine br_dec (fun h => ?_) (fun h => ?_)
    · walk_at "wh"
      refine ixT_rd (v := .int wt) F rfl ?_
      walk_at "wh"
      rw [if_pos (by omega)] at q
      exact q
    · walk_at "wh"
      refine ixT_rd (v := .int wt) F rfl ?_
      walk_at "wh"
      rw [if_neg (by omega)] at q
      exact q
  | tab g =>
    obtain ⟨q', ps, F, G⟩ := F
    obtain ⟨r, er, hr'⟩ := G.some (i := x) (by omega)
    walk_at "wh"
    refine ixT_rd (v := .str "table") F rfl ?_
    walk_at "wh"
    refine br_dT rfl ?_
    walk_at "wh"
    refine ixT_rd (v := .ref q') F rfl ?_
    walk_at "wh"
    refine ixL_rd (v := .ref r) G.out (atI_nat (by rw [List.getElem?_map, er]; rfl)) ?_
    walk_at "wh"
    refine ixL_rd (v := .int (g x y)) hr' (atI_nat (rowV_get (by omega))) ?_
    walk_at "wh"
    exact q
/-! ### battles looked at -/
@[irreducible] def sp_is_table_row : Sp := fun vs H Q _ => ∃ (r : Addr) (n : Nat) (g : Nat → Int), vs = [.int n, .ref r] ∧ H r = some (.lst (rowV n g)) ∧ n ≤ 1000 ∧ ∀ H', Same H H' → Q (.bl true) H'
theorem is_table_row_rd {H : Hp} {r : Addr} {n : Nat} {g : Nat → Int} {Q : VK} {E : XK} (h : H r = some (.lst (rowV n g))) (hn : n ≤ 1000) (q : ∀ H', Same H H' → Q (.bl true) H') : sp_is_table_row [.int n, .ref r] H Q E := by unfold sp_is_table_row; exact ⟨r, n, g, rfl, h, hn, q⟩
theorem ok_is_table_row {f : Addr} {fd : FuncData} (F : Fun K "is_table_row" "is_table_row" s_is_table_row f fd) (N : Nm mg) (D_is_whole : Def P w K mg base CX0 1 "is_whole" ["thing"] sp_is_whole) : FnOk P w K mg base CX0 2 f fd ["many_numbers", "row"] sp_is_table_row := by
  refine F.ok sc_is_table_row (fun vs H Q E h => by unfold sp_is_table_row at h; obtain ⟨_, _, _, rfl, _⟩ := h; rfl) (fun cdv A outer s H vs Q E hr h => ?_)
  unfold sp_is_table_row at h
  obtain ⟨r, n, g, rfl, h, hn, q⟩ := h
  have hu := hu40 hr
  refine ⟨_, (pss_one (ps_ret (peAnd (pB (cIsiK (K := K) rfl) N.isinstance_ bt_isinstance (pa_cons (pq 1) (pa_cons (pTy N.list_ bt_list) pa_nil))) (peAnd (peC (oEqK (K := K) rfl (by exact hu)) (pB (cLenK (K := K) rfl) N.len_ bt_len (pa_cons (pq 1) pa_nil)) (pq 0)) (pe_one (pB (cAllK (K := K) rfl rfl) N.all_ bt_all (pa_cons (peComp (N := ["number"]) (ks := [none]) (piSeqK (K := K) rfl (pq 1)) (fun cl C s3 H3 fp => (pg_name (i := 0) nb_0 rfl (by first | exact Or.inl rfl | exact Or.inr rfl))) (fun cl C s3 H3 fp => pts_nil) (fun cl C s3 H3 fp => (pD D_is_whole hr pass0 (pa_cons (pq 0) pa_nil))) (.skip .nil)) pa_nil))))))), ?_⟩
  walk_at "wh"
  refine isiL_rd h ?_
  walk_at "wh"
  refine br_T ?_
  walk_at "wh"
  refine lenL_rd h ?_
  rw [rowV_len]
  walk_at "wh"
  refine br_dT rfl ?_
  walk_at "wh"
  refine iterL_rd h ?_
  refine comp_I (Wk.list (SqL.of h)) (by rw [rowV_len, sizeLine_eq]; omega) (fun i => .bl true) (fun _ => true) (fun j σ => ∃ t : Option V, σ = [t]) ⟨none, rfl⟩ ?_ ?_
  · rintro j v σ H1 R S hj s1 hx ⟨t, rfl⟩ k _
    rw [rowV_len] at hj
    rw [rowV_get hj] at hx
    cases hx
    walk_at "wh"
    refine br_T ?_
    walk_at "wh"
    refine isw_rd ?_
    walk_at "wh"
    exact k rfl _ _ (Same.refl _) ⟨_, rfl⟩
  intro acc H1 f1 s1 h1
  rw [filter_T, rowV_len, all_rep] at h1
  walk_at "wh"
  refine all_rd h1 ?_
  rw [all_rep1]
  walk_at "wh"
  exact q _ s1
@[irreducible] def sp_is_table : Sp := fun vs H Q _ => ∃ (r : Addr) (ps : List Addr) (n m : Nat) (g : Nat → Nat → Int), vs = [.int n, .int m, .ref r] ∧ GridAt H r ps n m g ∧ n ≤ 1000 ∧ m ≤ 1000 ∧ ∀ H', Same H H' → Q (.bl true) H'
theorem is_table_rd {H : Hp} {r : Addr} {ps : List Addr} {n m : Nat} {g : Nat → Nat → Int} {Q : VK} {E : XK} (h : GridAt H r ps n m g) (hn : n ≤ 1000) (hm : m ≤ 1000) (q : ∀ H', Same H H' → Q (.bl true) H') : sp_is_table [.int n, .int m, .ref r] H Q E := by unfold sp_is_table; exact ⟨r, ps, n, m, g, rfl, h, hn, hm, q⟩
theorem ok_is_table {f : Addr} {fd : FuncData} (F : Fun K "is_table" "is_table" s_is_table f fd) (N : Nm mg) (D_is_table_row : Def P w K mg base CX0 2 "is_table_row" ["many_numbers", "row"] sp_is_table_row) : FnOk P w K mg base CX0 3 f fd ["many_rows", "many_numbers", "rows"] sp_is_table := by
  refine F.ok sc_is_table (fun vs H Q E h => by unfold sp_is_table at h; obtain ⟨_, _, _, _, _, rfl, _⟩ := h; rfl) (fun cdv A outer s H vs Q E hr h => ?_)
  unfold sp_is_table at h
  obtain ⟨r, ps, n, m, g, rfl, G, hn, hm, q⟩ := h
  have hu := hu40 hr
  have gl := G.len
  refine ⟨_, (pss_cons (psIf (ptW (pwOr (pt_not (ptV (pB (cIsiK (K := K) rfl) N.isinstance_ bt_isinstance (pa_cons (pq 2) (pa_cons (pTy N.list_ bt_list) pa_nil))))) (pw_or1 (ptC (oNeK (K := K) rfl (by exact hu)) (pB (cLenK (K := K) rfl) N.len_ bt_len (pa_cons (pq 2) pa_nil)) (pq 0))))) (pss_one (ps_ret pe_bl)) pss_nil)
      (pss_one (ps_ret (pB (cAllK (K := K) rfl rfl) N.all_ bt_all (pa_cons (peComp (N := ["row", "many_numbers"]) (ks := [none, some 1]) (piSeqK (K := K) rfl (pq 2)) (fun cl C s3 H3 fp => (pg_name (i := 0) nb_1 rfl (by first | exact Or.inl rfl | exact Or.inr rfl))) (fun cl C s3 H3 fp => pts_nil) (fun cl C s3 H3 fp => (pD D_is_table_row hr pass0 (pa_cons (pq 1) (pa_cons (pq 0) pa_nil)))) (.skip (.take rfl rfl (by first | exact Or.inl rfl | exact Or.inr rfl) .nil))) pa_nil))))), ?_⟩
  walk_at "wh"
  refine isiL_rd G.out ?_
  walk_at "wh"
  refine br_not (br_T ?_)
  walk_at "wh"
  refine lenL_rd G.out ?_
  rw [List.length_map, gl]
  walk_at "wh"
  refine br_not (br_dT rfl ?_)
  walk_at "wh"
  refine iterL_rd G.out ?_
  refine comp_I (Wk.list (SqL.of G.out)) (by rw [List.length_map, sizeLine_eq]; omega) (fun i => .bl true) (fun _ => true) (fun j σ => ∃ t : Option V, σ = [t, some (.int m)]) ⟨none, rfl⟩ ?_ ?_
  · rintro j v σ H1 R S hj s1 hx ⟨t, rfl⟩ k _
    rw [List.getElem?_map] at hx
    obtain ⟨p, ep, rfl⟩ := Option.map_eq_some_iff.mp hx
    walk_at "wh"
    refine br_T ?_
    walk_at "wh"
    refine is_table_row_rd (s1 _ _ (G.row j p ep)) hm (fun H2 s2 => ?_)
    walk_at "wh"
    exact k rfl _ _ s2 ⟨_, rfl⟩
  intro acc H1 f1 s1 h1
  rw [filter_T, List.length_map, all_rep] at h1
  walk_at "wh"
  refine all_rd h1 ?_
  rw [all_rep1]
  walk_at "wh"
  exact q _ s1
@[irreducible] def sp_is_field : Sp := fun vs H Q _ => ∃ (p : Addr) (a c : Nat) (f : Fd), vs = [.int a, .int c, .ref p] ∧ FdAt H p a c f ∧ f.Ok ∧ a ≤ 10 ∧ c ≤ 10 ∧ ∀ H', Same H H' → Q (.bl true) H'
theorem is_field_rd {H : Hp} {p : Addr} {a c : Nat} {f : Fd} {Q : VK} {E : XK} (F : FdAt H p a c f) (O : f.Ok) (h1 : a ≤ 10) (h2 : c ≤ 10) (q : ∀ H', Same H H' → Q (.bl true) H') : sp_is_field [.int a, .int c, .ref p] H Q E := by unfold sp_is_field; exact ⟨p, a, c, f, rfl, F, O, h1, h2, q⟩
theorem ok_is_field {f : Addr} {fd : FuncData} (F : Fun K "is_field" "is_field" s_is_field f fd) (N : Nm mg) (D_is_between : Def P w K mg base CX0 3 "is_between" ["thing", "least", "most"] sp_is_between) (D_is_from : Def P w K mg base CX0 2 "is_from" ["thing", "least"] sp_is_from) (D_is_table : Def P w K mg base CX0 3 "is_table" ["many_rows", "many_numbers", "rows"] sp_is_table) (D_is_whole : Def P w K mg base CX0 1 "is_whole" ["thing"] sp_is_whole) : FnOk P w K mg base CX0 4 f fd ["first", "second", "field"] sp_is_field := by
  refine F.ok sc_is_field (fun vs H Q E h => by unfold sp_is_field at h; obtain ⟨_, _, _, _, rfl, _⟩ := h; rfl) (fun cdv A outer s H vs Q E hr h => ?_)
  unfold sp_is_field at h
  obtain ⟨p, a, c, f, rfl, F, O, h1, h2, q⟩ := h
  have hu := hu40 hr
  refine ⟨_, (pss_cons (psIf (pt_not (ptV (pB (cIsiK (K := K) rfl) N.isinstance_ bt_isinstance (pa_cons (pq 2) (pa_cons (pTy N.tuple_ bt_tuple) pa_nil))))) (pss_one (ps_ret pe_bl)) pss_nil)
      (pss_cons (psIf (ptW (pwAnd (ptC (oEqK (K := K) rfl (by exact hu)) (pB (cLenK (K := K) rfl) N.len_ bt_len (pa_cons (pq 2) pa_nil)) pe_int) (pw_and1 (ptC (oEqK (K := K) rfl (by exact hu)) (peIxK (K := K) rfl (pq 2) pe_int) pe_str)))) (pss_one (ps_ret (peAnd (pD D_is_from hr pass0 (pa_cons (peIxK (K := K) rfl (pq 2) pe_int) (pa_cons pe_int pa_nil))) (pe_one (pD D_is_between hr pass0 (pa_cons (peIxK (K := K) rfl (pq 2) pe_int) (pa_cons (pe_un uNeg (peIxK (K := K) rfl (pq 2) pe_int)) (pa_cons (peIxK (K := K) rfl (pq 2) pe_int) pa_nil)))))))) pss_nil)
      (pss_cons (psIf (ptW (pwAnd (ptC (oEqK (K := K) rfl (by exact hu)) (pB (cLenK (K := K) rfl) N.len_ bt_len (pa_cons (pq 2) pa_nil)) pe_int) (pw_and1 (ptC (oEqK (K := K) rfl (by exact hu)) (peIxK (K := K) rfl (pq 2) pe_int) pe_str)))) (pss_one (ps_ret (peAnd (pD D_is_from hr pass0 (pa_cons (peIxK (K := K) rfl (pq 2) pe_int) (pa_cons pe_int pa_nil))) (pe_one (pD D_is_whole hr pass0 (pa_cons (peIxK (K := K) rfl (pq 2) pe_int) pa_nil)))))) pss_nil)
      (pss_cons (psIf (ptW (pwAnd (ptC (oEqK (K := K) rfl (by exact hu)) (pB (cLenK (K := K) rfl) N.len_ bt_len (pa_cons (pq 2) pa_nil)) pe_int) (pw_and1 (ptC (oEqK (K := K) rfl (by exact hu)) (peIxK (K := K) rfl (pq 2) pe_int) pe_str)))) (pss_one (ps_ret (pD D_is_table hr pass0 (pa_cons (pe_op oAdd (pq 0) pe_int) (pa_cons (pe_op oAdd (pq 1) pe_int) (pa_cons (peIxK (K := K) rfl (pq 2) pe_int) pa_nil)))))) pss_nil)
      (pss_one (ps_ret pe_bl)))))), ?_⟩
  cases f with
  | more wt t =>
    have F : H p = some (.tup [.str "more", .int wt, .int t]) := F
    obtain ⟨o1, o2, o3⟩ : 1 ≤ wt ∧ -wt ≤ t ∧ t ≤ wt := O
    walk_at "wh"
    refine isiT_rd F ?_
    walk_at "wh"
    refine br_not (br_T ?_)
    walk_at "wh"
    refine lenT_rd F ?_
    walk_at "wh"
    refine br_dT rfl ?_
    walk_at "wh"
    refine ixT_rd (v := .str "more") F rfl ?_
    walk_at "wh"
    refine br_dT rfl ?_
    walk_at "wh"
    refine ixT_rd (v := .int wt) F rfl ?_
    walk_at "wh"
    refine isf_rd ?_
    walk_at "wh"
    refine br_dT o1 ?_
    walk_at "wh"
    refine ixT_rd (v := .int t) F rfl ?_
    walk_at "wh"
    refine ixT_rd (v := .int wt) F rfl ?_
    walk_at "wh"
    refine ixT_rd (v := .int wt) F rfl ?_
    walk_at "wh"
    refine isb_rd ?_
    rw [decide_eq_true ⟨o2, o3⟩]
    walk_at "wh"
    exact q _ (Same.refl _)
  | lead wt l =>
    have F : H p = some (.tup [.str "lead", .int wt, .int l]) := F
    have O : 1 ≤ wt := O
    walk_at "wh"
    refine isiT_rd F ?_
    walk_at "wh"
    refine br_not (br_T ?_)
    walk_at "wh"
    refine lenT_rd F ?_
    walk_at "wh"
    refine br_dT rfl ?_
    walk_at "wh"
    refine ixT_rd (v := .str "lead") F rfl ?_
    walk_at "wh"
    refine br_dF (by decide) ?_
    walk_at "wh"
    refine lenT_rd F ?_
    walk_at "wh"
    refine br_dT rfl ?_
    walk_at "wh"
    refine ixT_rd (v := .str "lead") F rfl ?_
    walk_at "wh"
    refine br_dT rfl ?_
    walk_at "wh"
    refine ixT_rd (v := .int wt) F rfl ?_
    walk_at "wh"
    refine isf_rd ?_
    walk_at "wh"
    refine br_dT O ?_
    walk_at "wh"
    refine ixT_rd (v := .int l) F rfl ?_
    walk_at "wh"
    refine isw_rd ?_
    walk_at "wh"
    exact q _ (Same.refl _)
  | tab g =>
    obtain ⟨q', ps, F, G⟩ := F
    walk_at "wh"
    refine isiT_rd F ?_
    walk_at "wh"
    refine br_not (br_T ?_)
    walk_at "wh"
    refine lenT_rd F ?_
    walk_at "wh"
    refine br_dF (by show ¬ ((2 : Nat) : Int) = 3; decide) ?_
    walk_at "wh"
    refine br_F ?_
    walk_at "wh"
    refine lenT_rd F ?_
    walk_at "wh"
    refine br_dF (by show ¬ ((2 : Nat) : Int) = 3; decide) ?_
    walk_at "wh"
    refine br_F ?_
    walk_at "wh"
    refine lenT_rd F ?_
    walk_at "wh"
    refine br_dT rfl ?_
    walk_at "wh"
    refine ixT_rd (v := .str "table") F rfl ?_
    walk_at "wh"
    refine br_dT rfl ?_
    walk_at "wh"
    refine ixT_rd (v := .ref q') F rfl ?_
    walk_at "wh"
    refine is_table_rd (n := a + 1) (m := c + 1) G (by omega) (by omega) (fun H1 s1 => ?_)
    walk_at "wh"
    exact q _ s1
@[irreducible] def sp_are_hosts : Sp := fun vs H Q _ => ∃ x y : Int, vs = [.int x, .int y] ∧ Q (.bl (decide ((0 ≤ x ∧ x ≤ 10) ∧ 0 ≤ y ∧ y ≤ 10))) H
theorem are_hosts_rd {H : Hp} {x y : Int} {Q : VK} {E : XK} (q : Q (.bl (decide ((0 ≤ x ∧ x ≤ 10) ∧ 0 ≤ y ∧ y ≤ 10))) H) : sp_are_hosts [.int x, .int y] H Q E := by unfold sp_are_hosts; exact ⟨x, y, rfl, q⟩
theorem ok_are_hosts {f : Addr} {fd : FuncData} (F : Fun K "are_hosts" "are_hosts" s_are_hosts f fd) (N : Nm mg) {tk_MOST_HOSTS : Tok} (c_MOST_HOSTS : mg "MOST_HOSTS" = some (.int 10 tk_MOST_HOSTS)) (D_is_between : Def P w K mg base CX0 3 "is_between" ["thing", "least", "most"] sp_is_between) : FnOk P w K mg base CX0 4 f fd ["first", "second"] sp_are_hosts := by
  refine F.ok sc_are_hosts (fun vs H Q E h => by unfold sp_are_hosts at h; obtain ⟨_, _, rfl, _⟩ := h; rfl) (fun cdv A outer s H vs Q E hr h => ?_)
  unfold sp_are_hosts at h
  obtain ⟨x, y, rfl, q⟩ := h
  refine ⟨_, (pss_one (ps_ret (peAnd (pD D_is_between hr pass0 (pa_cons (pq 0) (pa_cons pe_int (pa_cons (pe_glob (v := .int 10) rfl c_MOST_HOSTS ⟨_, rfl⟩) pa_nil)))) (pe_one (pD D_is_between hr pass0 (pa_cons (pq 1) (pa_cons pe_int (pa_cons (pe_glob (v := .int 10) rfl c_MOST_HOSTS ⟨_, rfl⟩) pa_nil)))))))), ?_⟩
  walk_at "wh"
  refine isb_rd ?_
  walk_at "wh"
  refine br_dec (fun h => ?_) (fun h => ?_)
  · walk_at "wh"
    refine isb_rd ?_
    walk_at "wh"
    rw [dec_and1 h] at q
    exact q
  · walk_at "wh"
    rw [dec_and0 h] at q
    exact q
@[irreducible] def sp_has_size : Sp := fun vs H Q _ => ∃ (b l : Addr) (ps : List Addr) (a c : Nat) (fs : List Fd), vs = [.ref b] ∧ BatAt H b l ps a c fs ∧ OkB a c fs ∧ Q (.bl true) H
theorem has_size_rd {H : Hp} {b l : Addr} {ps : List Addr} {a c : Nat} {fs : List Fd} {Q : VK} {E : XK} (B : BatAt H b l ps a c fs) (O : OkB a c fs) (q : Q (.bl true) H) : sp_has_size [.ref b] H Q E := by unfold sp_has_size; exact ⟨b, l, ps, a, c, fs, rfl, B, O, q⟩
theorem ok_has_size {f : Addr} {fd : FuncData} (F : Fun K "has_size" "has_size" s_has_size f fd) (N : Nm mg) {tk_MOST_FIELDS : Tok} (c_MOST_FIELDS : mg "MOST_FIELDS" = some (.int 5 tk_MOST_FIELDS)) (D_are_hosts : Def P w K mg base CX0 4 "are_hosts" ["first", "second"] sp_are_hosts) : FnOk P w K mg base CX0 5 f fd ["battle"] sp_has_size := by
  refine F.ok sc_has_size (fun vs H Q E h => by unfold sp_has_size at h; obtain ⟨_, _, _, _, _, _, rfl, _⟩ := h; rfl) (fun cdv A outer s H vs Q E hr h => ?_)
  unfold sp_has_size at h
  obtain ⟨b, l, ps, a, c, fs, rfl, B, ⟨⟨o1, o2⟩, o3, o4⟩, q⟩ := h
  have bl := B.len
  refine ⟨_, (pss_one (ps_ret (peAnd (pD D_are_hosts hr pass0 (pa_cons (peIxK (K := K) rfl (pq 0) pe_int) (pa_cons (peIxK (K := K) rfl (pq 0) pe_int) pa_nil))) (pe_one (peChain oLe oLe pe_int (pB (cLenK (K := K) rfl) N.len_ bt_len (pa_cons (peIxK (K := K) rfl (pq 0) pe_int) pa_nil)) (pe_glob (v := .int 5) rfl c_MOST_FIELDS ⟨_, rfl⟩)))))), ?_⟩
  walk_at "wh"
  refine ixT_rd (v := .int a) B.out rfl ?_
  walk_at "wh"
  refine ixT_rd (v := .int c) B.out rfl ?_
  walk_at "wh"
  refine are_hosts_rd ?_
  rw [decide_eq_true ⟨⟨by omega, by omega⟩, by omega, by omega⟩]
  walk_at "wh"
  refine br_T ?_
  walk_at "wh"
  refine ixT_rd (v := .ref l) B.out rfl ?_
  walk_at "wh"
  refine lenL_rd B.lst ?_
  rw [List.length_map, bl]
  walk_at "wh"
  refine br_dT (by omega) ?_
  walk_at "wh"
  rw [decide_eq_true (by omega)]
  exact q
@[irreducible] def sp_look_battle : Sp := fun vs H Q _ => ∃ (b l : Addr) (ps : List Addr) (a c : Nat) (fs : List Fd), vs = [.ref b] ∧ BatAt H b l ps a c fs ∧ OkB a c fs ∧ ∀ H', Same H H' → Q .non H'
theorem look_battle_rd {H : Hp} {b l : Addr} {ps : List Addr} {a c : Nat} {fs : List Fd} {Q : VK} {E : XK} (B : BatAt H b l ps a c fs) (O : OkB a c fs) (q : ∀ H', Same H H' → Q .non H') : sp_look_battle [.ref b] H Q E := by unfold sp_look_battle; exact ⟨b, l, ps, a, c, fs, rfl, B, O, q⟩
theorem ok_look_battle {f : Addr} {fd : FuncData} (F : Fun K "look_battle" "look_battle" s_look_battle f fd) (N : Nm mg) (D_has_size : Def P w K mg base CX0 5 "has_size" ["battle"] sp_has_size) (D_is_field : Def P w K mg base CX0 4 "is_field" ["first", "second", "field"] sp_is_field) : FnOk P w K mg base CX0 6 f fd ["battle"] sp_look_battle := by
  refine F.ok sc_look_battle (fun vs H Q E h => by unfold sp_look_battle at h; obtain ⟨_, _, _, _, _, _, rfl, _⟩ := h; rfl) (fun cdv A outer s H vs Q E hr h => ?_)
  unfold sp_look_battle at h
  obtain ⟨b, l, ps, a, c, fs, rfl, B, O, q⟩ := h
  refine ⟨_, (pss_cons (psIf (pt_not (ptV (pD D_has_size hr pass0 (pa_cons (pq 0) pa_nil)))) (pss_one ps_never) pss_nil)
      (pss_one (psFor PassesOwn.never rfl (piEnumK (K := K) rfl N.enumerate_ (pa_cons (peIxK (K := K) rfl (pq 0) pe_int) pa_nil)) (pgAnyK (K := K) (n := 2) rfl rfl (pgsCons (pg_name (i := 1) sc_look_battle.nd rfl (by first | exact Or.inl rfl | exact Or.inr rfl)) (pgsCons (pg_name (i := 2) sc_look_battle.nd rfl (by first | exact Or.inl rfl | exact Or.inr rfl)) pgsNil))) (pss_one (psIf (pt_not (ptV (pD D_is_field hr pass0 (pa_cons (peIxK (K := K) rfl (pq 0) pe_int) (pa_cons (peIxK (K := K) rfl (pq 0) pe_int) (pa_cons (pq 2) pa_nil)))))) (pss_one ps_never) pss_nil))))), ?_⟩
  walk_at "wh"
  refine has_size_rd B O ?_
  walk_at "wh"
  refine br_not (br_T ?_)
  walk_at "wh"
  refine ixT_rd (v := .ref l) B.out rfl ?_
  walk_at "wh"
  refine enum_rd B.lst ?_
  refine loop_enum (xs := ps.map V.ref) (fun i σ H1 => ∃ x y : Option V, σ = [some (.ref b), x, y] ∧ Same H H1) ?_ ?_ ?_ ?_
  · exact ⟨_, _, rfl, Same.refl _⟩
  · rintro i σ H1 _ ⟨_, _, _, s1⟩
    exact SqL.of (s1 _ _ B.lst)
  · rintro i v σ H1 p H2 hi ⟨x, y, rfl, s1⟩ f2 s2 h2
    have s12 := s1.trans s2
    obtain ⟨p', f, rfl, e1, e2, hf, ok⟩ := (B.same s12).elt hi
    walk_at "wh"
    refine unpT_rd h2 ?_
    walk_at "wh"
    refine ixT_rd (v := .int a) (s12 _ _ B.out) rfl ?_
    walk_at "wh"
    refine ixT_rd (v := .int c) (s12 _ _ B.out) rfl ?_
    walk_at "wh"
    refine is_field_rd hf ok O.1.1 O.1.2 (fun H3 s3 => ?_)
    walk_at "wh"
    refine br_not (br_T ?_)
    walk_at "wh"
    exact ⟨_, _, rfl, s12.trans s3⟩
  · rintro σ H1 ⟨x, y, rfl, s1⟩
    walk_at "wh"
    exact q _ s1
-- @@split
/-! ### a heap without one thing, the new part of a heap -/
def rm (p : Addr) (H : Hp) : Hp := fun b => if b = p then none else H b
def nw (H H' : Hp) : Hp := fun b => match H b with
  | none => H' b
  | some _ => none
theorem rm_at {p b : Addr} {H : Hp} {o : HO} (n : b ≠ p) (h : H b = some o) : rm p H b = some o := by unfold rm; rw [if_neg n]; exact h
theorem rm_of {p b : Addr} {H : Hp} {o : HO} (h : rm p H b = some o) : b ≠ p ∧ H b = some o := by
  unfold rm at h
  by_cases e : b = p
  · rw [if_pos e] at h; cases h
  · rw [if_neg e] at h; exact ⟨e, h⟩
theorem nw_at {b : Addr} {H H' : Hp} {o : HO} (n : H b = none) (h : H' b = some o) : nw H H' b = some o := by unfold nw; rw [n]; exact h
theorem nw_of {b : Addr} {H H' : Hp} {o : HO} (h : nw H H' b = some o) : H b = none ∧ H' b = some o := by
  unfold nw at h
  cases e : H b with
  | none => rw [e] at h; exact ⟨rfl, h⟩
  | some v => rw [e] at h; cases h
theorem rm_same (p : Addr) (H : Hp) : Same (rm p H) H := fun b o h => (rm_of h).2
theorem nw_same (H H' : Hp) : Same (nw H H') H' := fun b o h => (nw_of h).2
theorem Same.rm {p : Addr} {H H' : Hp} (s : Same H H') : Same (rm p H) (G.rm p H') := fun b o h => rm_at (rm_of h).1 (s _ _ (rm_of h).2)
theorem Chg.rm {p : Addr} {H H' : Hp} (s : Chg p H H') : Same (rm p H) (G.rm p H') := fun b o h => rm_at (rm_of h).1 (s _ _ (rm_of h).1 (rm_of h).2)
theorem nw_up {H H' H'' : Hp} (s : Same H' H'') : Same (nw H H') (nw H H'') := fun b o h => nw_at (nw_of h).1 (s _ _ (nw_of h).2)
theorem nw_rm {p : Addr} {o : HO} {H H' : Hp} (hp : H p = some o) : Same (nw H H') (rm p H') := fun b o h => rm_at (fun z => by have := (nw_of h).1; rw [z, hp] at this; cases this) (nw_of h).2
theorem rowV_of {z : List Int} {n : Nat} (h : z.length = n) : z.map V.int = rowV n fun y => z.getD y 0 := by
  subst h
  apply List.ext_getElem?
  intro i
  by_cases hi : i < z.length
  · rw [rowV_get hi, List.getElem?_map, List.getElem?_eq_getElem hi, List.getD_eq_getElem?_getD, List.getElem?_eq_getElem hi]
    rfl
  · rw [List.getElem?_eq_none (by simp; omega), List.getElem?_eq_none (by rw [rowV_len]; omega)]
@[irreducible] def sp__law_rule : Sp := fun vs H Q _ => ∃ (a : Addr) (b : Int) (n m : Nat), vs = [.ref a, .int n, .int m] ∧ LeftAt H a b ∧ b ≤ 90000 ∧ n ≤ 10 ∧ m ≤ 10 ∧ ∀ p f H', Chg a H H' → LeftAt H' a (b + 1000) → FdAt (nw H H') p n m f → f.Ok → Q (.ref p) H'
theorem rule_rd {H : Hp} {a : Addr} {b : Int} {n m : Nat} {Q : VK} {E : XK} (hL : LeftAt H a b) (hb : b ≤ 90000) (h1 : n ≤ 10) (h2 : m ≤ 10) (q : ∀ p f H', Chg a H H' → LeftAt H' a (b + 1000) → FdAt (nw H H') p n m f → f.Ok → Q (.ref p) H') : sp__law_rule [.ref a, .int n, .int m] H Q E := by unfold sp__law_rule; exact ⟨a, b, n, m, rfl, hL, hb, h1, h2, q⟩
set_option maxHeartbeats 0 in
theorem ok__law_rule {f : Addr} {fd : FuncData} (F : Fun K "_law_rule" "_law_rule" s__law_rule f fd) (N : Nm mg) (D__law_draw : Def P w K mg base CX0 2 "_law_draw" ["_law_left_here", "_law_base"] sp__law_draw) (D__law_some : Def P w K mg base CX0 3 "_law_some" ["_law_left_here"] sp__law_some) : FnOk P w K mg base CX0 4 f fd ["_law_left_here", "_law_first", "_law_second"] sp__law_rule := by
  refine F.ok sc__law_rule (fun vs H Q E h => by unfold sp__law_rule at h; obtain ⟨_, _, _, _, rfl, _⟩ := h; rfl) (fun cdv A outer s H vs Q E hr h => ?_)
  unfold sp__law_rule at h
  obtain ⟨a, b, n, m, rfl, hL, hb, h1, h2, q⟩ := h
  have hu := hu40 hr
  refine ⟨_, (pss_cons (psS (i := 3) sc__law_rule.nd (pD D__law_draw hr pass0 (pa_cons (pq 0) (pa_cons pe_int pa_nil))))
      (pss_cons (psS (i := 4) sc__law_rule.nd (pe_op oAdd pe_int (pD D__law_draw hr pass0 (pa_cons (pq 0) (pa_cons (peIxK (K := K) rfl (peLst (pa_cons pe_int (pa_cons pe_int (pa_cons (pe_op oPow pe_int pe_int) pa_nil)))) (pD D__law_draw hr pass0 (pa_cons (pq 0) (pa_cons pe_int pa_nil)))) pa_nil)))))
      (pss_cons (psIf (ptC oLt (pq 3) pe_int) (pss_one (ps_ret (peTup (pa_cons pe_str (pa_cons (pq 4) (pa_cons (pe_op oSub (pD D__law_draw hr pass0 (pa_cons (pq 0) (pa_cons (pe_op oAdd (pe_op oMul pe_int (pq 4)) pe_int) pa_nil))) (pq 4)) pa_nil)))))) pss_nil)
      (pss_cons (psIf (ptC (oEqK (K := K) rfl (by exact hu)) (pq 3) pe_int) (pss_one (ps_ret (peTup (pa_cons pe_str (pa_cons (pq 4) (pa_cons (pe_op oSub (pD D__law_draw hr pass0 (pa_cons (pq 0) (pa_cons (peIxK (K := K) rfl (peLst (pa_cons pe_int (pa_cons pe_int pa_nil))) (pD D__law_draw hr pass0 (pa_cons (pq 0) (pa_cons pe_int pa_nil)))) pa_nil))) pe_int) pa_nil)))))) pss_nil)
      (pss_cons (psIf (ptC (oEqK (K := K) rfl (by exact hu)) (pq 3) pe_int) (pss_one (ps_ret (peTup (pa_cons pe_str (pa_cons (peComp (N := ["_law_x", "_law_second", "_law_left_here"]) (ks := [none, some 2, some 0]) (piRng1 N.range_ (pa_cons (pe_op oAdd (pq 1) pe_int) pa_nil)) (fun cl C s3 H3 fp => (pg_name (i := 0) nb_3 rfl (by first | exact Or.inl rfl | exact Or.inr rfl))) (fun cl C s3 H3 fp => pts_nil) (fun cl C s3 H3 fp => (peComp (N := ["_law_y", "_law_left_here"]) (ks := [none, some 2]) (piRng1 N.range_ (pa_cons (pe_op oAdd (pq 1) pe_int) pa_nil)) (fun cl C s3 H3 fp => (pg_name (i := 0) nb_4 rfl (by first | exact Or.inl rfl | exact Or.inr rfl))) (fun cl C s3 H3 fp => pts_nil) (fun cl C s3 H3 fp => (pe_op oSub (pD D__law_draw hr pass0 (pa_cons (pq 1) (pa_cons pe_int pa_nil))) pe_int)) (.skip (.take rfl rfl (by first | exact Or.inl rfl | exact Or.inr rfl) .nil)))) (.skip (.take rfl rfl (by first | exact Or.inl rfl | exact Or.inr rfl) (.take rfl rfl (by first | exact Or.inl rfl | exact Or.inr rfl) .nil)))) pa_nil))))) pss_nil)
      (pss_one (ps_ret (peTup (pa_cons pe_str (pa_cons (peComp (N := ["_law_x", "_law_second", "_law_left_here"]) (ks := [none, some 2, some 0]) (piRng1 N.range_ (pa_cons (pe_op oAdd (pq 1) pe_int) pa_nil)) (fun cl C s3 H3 fp => (pg_name (i := 0) nb_3 rfl (by first | exact Or.inl rfl | exact Or.inr rfl))) (fun cl C s3 H3 fp => pts_nil) (fun cl C s3 H3 fp => (peComp (N := ["_law_y", "_law_left_here"]) (ks := [none, some 2]) (piRng1 N.range_ (pa_cons (pe_op oAdd (pq 1) pe_int) pa_nil)) (fun cl C s3 H3 fp => (pg_name (i := 0) nb_4 rfl (by first | exact Or.inl rfl | exact Or.inr rfl))) (fun cl C s3 H3 fp => pts_nil) (fun cl C s3 H3 fp => (pD D__law_some hr pass0 (pa_cons (pq 1) pa_nil))) (.skip (.take rfl rfl (by first | exact Or.inl rfl | exact Or.inr rfl) .nil)))) (.skip (.take rfl rfl (by first | exact Or.inl rfl | exact Or.inr rfl) (.take rfl rfl (by first | exact Or.inl rfl | exact Or.inr rfl) .nil)))) pa_nil)))))))))), ?_⟩
  walk_at "wh"
  refine draw_rd hL (by omega) (by omega) (by omega) (fun kd H1 k0 k1 c1 L1 => ?_)
  walk_at "st"
  walk_at "wh"
  refine newL_rd (fun q1 Ha fa sa ha => ?_)
  walk_at "wh"
  refine draw_rd (L1.same sa) (by omega) (by omega) (by omega) (fun d3 Hb d30 d31 cb Lb => ?_)
  have hab := cb _ _ (L1.ne fa) ha
  walk_at "wh"
  refine ixAny_rd hab (by omega) (by simp only [List.length_cons, List.length_nil]; omega) ?_
  intro v hv
  obtain ⟨tp, rfl, tp1, tp2⟩ : ∃ t : Int, v = .int t ∧ 1 ≤ t ∧ t ≤ 10 ^ 28 := by
    simp only [List.mem_cons, List.not_mem_nil, or_false] at hv
    rcases hv with rfl | rfl | rfl <;> exact ⟨_, rfl, by omega, by omega⟩
  clear hv hab ha
  walk_at "wh"
  refine draw_rd Lb (by omega) (by omega) (by omega) (fun d4 H2 d40 d41 c2 L2 => ?_)
  have c02 : Chg a H H2 := ((c1.same sa).trans cb).trans c2
  obtain ⟨wt, ewt, w0, w1⟩ : ∃ wt : Int, 1 + d4 = wt ∧ 1 ≤ wt ∧ wt ≤ 10 ^ 29 := ⟨_, rfl, by omega, by omega⟩
  walk_at "wh"
  rw [ewt]
  refine br_dec (fun e0 => ?_) (fun e0 => ?_)
  · walk_at "wh"
    refine mulL_rd (by decide) (by decide) ?_
    walk_at "wh"
    refine draw_rd L2 (by omega) (by omega) (by omega) (fun d5 H5 d50 d51 c5 L5 => ?_)
    walk_at "wh"
    refine newT_rd (fun p6 H6 f6 s6 h6 => ?_)
    walk_at "wh"
    have c05 := c02.trans c5
    exact q p6 (.more wt (d5 - wt)) H6 (c05.same s6) ((L5.same s6).up (by omega)) (nw_at (Chg.free' c05 f6 (L5.ne f6)) h6) ⟨w0, by omega, by omega⟩
  walk_at "wh"
  refine br_dec (fun e1 => ?_) (fun e1 => ?_)
  · walk_at "wh"
    refine newL_rd (fun p4 H4 f4 s4 h4 => ?_)
    walk_at "wh"
    refine draw_rd (L2.same s4) (by omega) (by omega) (by omega) (fun d5 H5 d50 d51 c5 L5 => ?_)
    have h45 := c5 _ _ (L2.ne f4) h4
    walk_at "wh"
    refine ixAny_rd h45 (by omega) (by simp only [List.length_cons, List.length_nil]; omega) ?_
    intro v hv
    obtain ⟨tq, rfl, tq1, tq2⟩ : ∃ t : Int, v = .int t ∧ 1 ≤ t ∧ t ≤ 25 := by
      simp only [List.mem_cons, List.not_mem_nil, or_false] at hv
      rcases hv with rfl | rfl <;> exact ⟨_, rfl, by omega, by omega⟩
    clear hv
    walk_at "wh"
    refine draw_rd L5 (by omega) (by omega) (by omega) (fun d6 H6 d60 d61 c6 L6 => ?_)
    walk_at "wh"
    refine newT_rd (fun p7 H7 f7 s7 h7 => ?_)
    walk_at "wh"
    have c06 := ((c02.same s4).trans c5).trans c6
    exact q p7 (.lead wt (d6 - 2)) H7 (c06.same s7) ((L6.same s7).up (by omega)) (nw_at (Chg.free' c06 f7 (L6.ne f7)) h7) w0
  walk_at "wh"
  refine br_dec (fun e2 => ?_) (fun e2 => ?_)
  · walk_at "wh"
    refine range_rd (by decide) (by decide) (by omega) (by omega) ?_
    rw [show ((n : Int) + 1 - 0).toNat = n + 1 by omega]
    refine comp_rangeV (by rw [sizeLine_eq]; omega) (fun r H3 f3 s3 h3 => ?_)
    have nr : r ≠ a := L2.ne f3
    have fr : H r = none := Chg.free' c02 f3 nr
    refine ⟨fun i ys σ H4 => ∃ (t : Option V) (qs : List Addr) (zs : List (List Int)), σ = [t, some (.int m), some (.ref a)] ∧ ys = qs.map V.ref ∧ LeftAt H4 a (b + 20 + 50 * i) ∧ Chg2 a r H2 H4 ∧ qs.length = i ∧ zs.length = i ∧ ∀ (k : Nat) q z, qs[k]? = some q → zs[k]? = some z → H q = none ∧ q ≠ r ∧ q ≠ a ∧ H4 q = some (.lst (z.map V.int)) ∧ z.length = m + 1, ?_, ?_, ?_⟩
    · exact ⟨none, [], [], rfl, rfl, (L2.same s3).up (by omega), s3.to2, rfl, rfl, fun k q z e => by simp at e⟩
    · rintro i mm ys σ H4 hi hm hl h4 ⟨t, qs, zs, rfl, rfl, L4, c4, ql, zl, pr⟩
      have hi : i < n + 1 := hi
      walk_at "wh"
      refine br_T ?_
      walk_at "wh"
      refine range_rd (by decide) (by decide) (by omega) (by omega) ?_
      rw [show ((m : Int) + 1 - 0).toNat = m + 1 by omega]
      refine comp_rangeV (by rw [sizeLine_eq]; omega) (fun acc H5 f5 s5 h5 => ?_)
      have na : acc ≠ a := L4.ne f5
      have nra : r ≠ acc := ne_of_none h4 f5
      refine ⟨fun j ys σ H6 => ∃ (t : Option V) (z : List Int), σ = [t, some (.ref a)] ∧ ys = z.map V.int ∧ z.length = j ∧ LeftAt H6 a (b + 20 + 50 * i + 4 * j) ∧ Chg2 a acc H4 H6, ?_, ?_, ?_⟩
      · exact ⟨none, [], rfl, rfl, rfl, (L4.same s5).up (by omega), s5.to2⟩
      · rintro j m' ys σ H6 hj hm' hl' h6 ⟨t, z, rfl, rfl, lz, L6, c6⟩
        have hj : j < m + 1 := hj
        walk_at "wh"
        refine br_T ?_
        walk_at "wh"
        refine draw_rd L6 (by omega) (by omega) (by omega) (fun d H7 d0 d1 c7 L7 => ?_)
        walk_at "wh"
        refine cputV_rd hj hm' hl' (c7 _ _ na h6) (fun H8 c8 h8 => ?_)
        exact ⟨_, z ++ [_], rfl, by rw [List.map_append]; rfl, by rw [List.length_append, lz]; rfl, (L7.chg c8 (Ne.symm na)).up (by omega), (c6.trans c7.toL).trans c8.toR⟩
      · rintro ys σ H6 h6 ⟨t, z, rfl, rfl, lz, L6, c6⟩
        have facc : H acc = none := Chg.free' c02 (by
          cases e : H2 acc with
          | none => rfl
          | some o =>
            have := c4 _ _ na (Ne.symm nra) e
            rw [f5] at this
            cases this) na
        walk_at "wh"
        refine cputV_rd hi hm hl (c6 _ _ nr nra h4) (fun H7 c7 h7 => ?_)
        refine ⟨_, qs ++ [acc], zs ++ [z], rfl, by rw [List.map_append]; rfl, (L6.chg c7 (Ne.symm nr)).up (by omega), fun x o z1 z2 e => ?_, by rw [List.length_append, ql]; rfl, by rw [List.length_append, zl]; rfl, fun k q z' g1 g2 => ?_⟩
        · have e4 := c4 _ _ z1 z2 e
          exact c7 _ _ z2 (c6 _ _ z1 (ne_of_none e4 f5) e4)
        by_cases hk : k < qs.length
        · rw [List.getElem?_append_left hk] at g1
          rw [List.getElem?_append_left (by omega)] at g2
          obtain ⟨y1, y2, y3, y4, y5⟩ := pr k q z' g1 g2
          exact ⟨y1, y2, y3, c7 _ _ y2 (c6 _ _ y3 (ne_of_none y4 f5) y4), y5⟩
        · rw [List.getElem?_append_right (by omega)] at g1 g2
          have k0 : k - qs.length = 0 := by
            have := (List.getElem?_eq_some_iff.mp g1).1
            simp at this; omega
          rw [k0] at g1
          rw [show k - zs.length = 0 by omega] at g2
          cases g1
          cases g2
          exact ⟨facc, Ne.symm nra, na, c7 _ _ (Ne.symm nra) h6, lz⟩
    · rintro ys σ H4 h4 ⟨t, qs, zs, rfl, rfl, L4, c4, ql, zl, pr⟩
      have c04 : Chg a H H4 := fun x o z1 e => c4 _ _ z1 (ne_of_none e fr) (c02 _ _ z1 e)
      walk_at "wh"
      refine newT_rd (fun p5 H5 f5 s5 h5 => ?_)
      walk_at "wh"
      refine q p5 (.tab fun x y => (zs.getD x []).getD y 0) H5 (c04.same s5) ((L4.same s5).up (by omega)) ⟨r, qs, nw_at (Chg.free' c04 f5 (L4.ne f5)) h5, nw_at fr (s5 _ _ h4), ql, fun i p e => ?_⟩ trivial
      obtain ⟨z, ez⟩ : ∃ z, zs[i]? = some z := ⟨_, List.getElem?_eq_getElem (by have := (List.getElem?_eq_some_iff.mp e).1; omega)⟩
      obtain ⟨y1, y2, y3, y4, y5⟩ := pr i p z e ez
      have eg : zs.getD i [] = z := by rw [List.getD_eq_getElem?_getD, ez]; rfl
      show nw H H5 p = some (.lst (rowV (m + 1) fun y => (zs.getD i []).getD y 0))
      rw [eg, ← rowV_of y5]
      exact nw_at y1 (s5 _ _ y4)
  · walk_at "wh"
    refine range_rd (by decide) (by decide) (by omega) (by omega) ?_
    rw [show ((n : Int) + 1 - 0).toNat = n + 1 by omega]
    refine comp_rangeV (by rw [sizeLine_eq]; omega) (fun r H3 f3 s3 h3 => ?_)
    have nr : r ≠ a := L2.ne f3
    have fr : H r = none := Chg.free' c02 f3 nr
    refine ⟨fun i ys σ H4 => ∃ (t : Option V) (qs : List Addr) (zs : List (List Int)), σ = [t, some (.int m), some (.ref a)] ∧ ys = qs.map V.ref ∧ LeftAt H4 a (b + 20 + 50 * i) ∧ Chg2 a r H2 H4 ∧ qs.length = i ∧ zs.length = i ∧ ∀ (k : Nat) q z, qs[k]? = some q → zs[k]? = some z → H q = none ∧ q ≠ r ∧ q ≠ a ∧ H4 q = some (.lst (z.map V.int)) ∧ z.length = m + 1, ?_, ?_, ?_⟩
    · exact ⟨none, [], [], rfl, rfl, (L2.same s3).up (by omega), s3.to2, rfl, rfl, fun k q z e => by simp at e⟩
    · rintro i mm ys σ H4 hi hm hl h4 ⟨t, qs, zs, rfl, rfl, L4, c4, ql, zl, pr⟩
      have hi : i < n + 1 := hi
      walk_at "wh"
      refine br_T ?_
      walk_at "wh"
      refine range_rd (by decide) (by decide) (by omega) (by omega) ?_
      rw [show ((m : Int) + 1 - 0).toNat = m + 1 by omega]
      refine comp_rangeV (by rw [sizeLine_eq]; omega) (fun acc H5 f5 s5 h5 => ?_)
      have na : acc ≠ a := L4.ne f5
      have nra : r ≠ acc := ne_of_none h4 f5
      refine ⟨fun j ys σ H6 => ∃ (t : Option V) (z : List Int), σ = [t, some (.ref a)] ∧ ys = z.map V.int ∧ z.length = j ∧ LeftAt H6 a (b + 20 + 50 * i + 4 * j) ∧ Chg2 a acc H4 H6, ?_, ?_, ?_⟩
      · exact ⟨none, [], rfl, rfl, rfl, (L4.same s5).up (by omega), s5.to2⟩
      · rintro j m' ys σ H6 hj hm' hl' h6 ⟨t, z, rfl, rfl, lz, L6, c6⟩
        have hj : j < m + 1 := hj
        walk_at "wh"
        refine br_T ?_
        walk_at "wh"
        refine some_rd L6 (by omega) (fun d H7 c7 L7 => ?_)
        walk_at "wh"
        refine cputV_rd hj hm' hl' (c7 _ _ na h6) (fun H8 c8 h8 => ?_)
        exact ⟨_, z ++ [_], rfl, by rw [List.map_append]; rfl, by rw [List.length_append, lz]; rfl, (L7.chg c8 (Ne.symm na)).up (by omega), (c6.trans c7.toL).trans c8.toR⟩
      · rintro ys σ H6 h6 ⟨t, z, rfl, rfl, lz, L6, c6⟩
        have facc : H acc = none := Chg.free' c02 (by
          cases e : H2 acc with
          | none => rfl
          | some o =>
            have := c4 _ _ na (Ne.symm nra) e
            rw [f5] at this
            cases this) na
        walk_at "wh"
        refine cputV_rd hi hm hl (c6 _ _ nr nra h4) (fun H7 c7 h7 => ?_)
        refine ⟨_, qs ++ [acc], zs ++ [z], rfl, by rw [List.map_append]; rfl, (L6.chg c7 (Ne.symm nr)).up (by omega), fun x o z1 z2 e => ?_, by rw [List.length_append, ql]; rfl, by rw [List.length_append, zl]; rfl, fun k q z' g1 g2 => ?_⟩
        · have e4 := c4 _ _ z1 z2 e
          exact c7 _ _ z2 (c6 _ _ z1 (ne_of_none e4 f5) e4)
        by_cases hk : k < qs.length
        · rw [List.getElem?_append_left hk] at g1
          rw [List.getElem?_append_left (by omega)] at g2
          obtain ⟨y1, y2, y3, y4, y5⟩ := pr k q z' g1 g2
          exact ⟨y1, y2, y3, c7 _ _ y2 (c6 _ _ y3 (ne_of_none y4 f5) y4), y5⟩
        · rw [List.getElem?_append_right (by omega)] at g1 g2
          have k0 : k - qs.length = 0 := by
            have := (List.getElem?_eq_some_iff.mp g1).1
            simp at this; omega
          rw [k0] at g1
          rw [show k - zs.length = 0 by omega] at g2
          cases g1
          cases g2
          exact ⟨facc, Ne.symm nra, na, c7 _ _ (Ne.symm nra) h6, lz⟩
    · rintro ys σ H4 h4 ⟨t, qs, zs, rfl, rfl, L4, c4, ql, zl, pr⟩
      have c04 : Chg a H H4 := fun x o z1 e => c4 _ _ z1 (ne_of_none e fr) (c02 _ _ z1 e)
      walk_at "wh"
      refine newT_rd (fun p5 H5 f5 s5 h5 => ?_)
      walk_at "wh"
      refine q p5 (.tab fun x y => (zs.getD x []).getD y 0) H5 (c04.same s5) ((L4.same s5).up (by omega)) ⟨r, qs, nw_at (Chg.free' c04 f5 (L4.ne f5)) h5, nw_at fr (s5 _ _ h4), ql, fun i p e => ?_⟩ trivial
      obtain ⟨z, ez⟩ : ∃ z, zs[i]? = some z := ⟨_, List.getElem?_eq_getElem (by have := (List.getElem?_eq_some_iff.mp e).1; omega)⟩
      obtain ⟨y1, y2, y3, y4, y5⟩ := pr i p z e ez
      have eg : zs.getD i [] = z := by rw [List.getD_eq_getElem?_getD, ez]; rfl
      show nw H H5 p = some (.lst (rowV (m + 1) fun y => (zs.getD i []).getD y 0))
      rw [eg, ← rowV_of y5]
      exact nw_at y1 (s5 _ _ y4)
-- @@split
@[irreducible] def sp__law_battle : Sp := fun vs H Q _ => ∃ (a : Addr) (b : Int) (t : Nat), vs = [.ref a, .int t, .int 5] ∧ t ≤ 10 ∧ LeftAt H a b ∧ b ≤ 1000 ∧ ∀ bt l ps n m fs H', Chg a H H' → LeftAt H' a (b + 10000) → BatAt (rm a H') bt l ps n m fs → OkB n m fs → Q (.ref bt) H'
theorem law_battle_rd {H : Hp} {a : Addr} {b : Int} {t : Nat} {Q : VK} {E : XK} (ht : t ≤ 10) (hL : LeftAt H a b) (hb : b ≤ 1000) (q : ∀ bt l ps n m fs H', Chg a H H' → LeftAt H' a (b + 10000) → BatAt (rm a H') bt l ps n m fs → OkB n m fs → Q (.ref bt) H') : sp__law_battle [.ref a, .int t, .int 5] H Q E := by unfold sp__law_battle; exact ⟨a, b, t, rfl, ht, hL, hb, q⟩
theorem ok__law_battle {f : Addr} {fd : FuncData} (F : Fun K "_law_battle" "_law_battle" s__law_battle f fd) (N : Nm mg) (D__law_draw : Def P w K mg base CX0 2 "_law_draw" ["_law_left_here", "_law_base"] sp__law_draw) (D__law_rule : Def P w K mg base CX0 4 "_law_rule" ["_law_left_here", "_law_first", "_law_second"] sp__law_rule) : FnOk P w K mg base CX0 5 f fd ["_law_left_here", "_law_most", "_law_fields"] sp__law_battle := by
  refine F.ok sc__law_battle (fun vs H Q E h => by unfold sp__law_battle at h; obtain ⟨_, _, _, rfl, _⟩ := h; rfl) (fun cdv A outer s H vs Q E hr h => ?_)
  unfold sp__law_battle at h
  obtain ⟨a, b, tt, rfl, ht, hL, hb, q⟩ := h
  refine ⟨_, (pss_cons (psS (i := 3) sc__law_battle.nd (pD D__law_draw hr pass0 (pa_cons (pq 0) (pa_cons (pe_op oAdd (pq 1) pe_int) pa_nil))))
      (pss_cons (psS (i := 4) sc__law_battle.nd (pD D__law_draw hr pass0 (pa_cons (pq 0) (pa_cons (pe_op oAdd (pq 1) pe_int) pa_nil))))
      (pss_one (ps_ret (peTup (pa_cons (pq 3) (pa_cons (pq 4) (pa_cons (peComp (N := ["_law_k", "_law_left_here", "_law_first", "_law_second"]) (ks := [none, some 0, some 3, some 4]) (piRng1 N.range_ (pa_cons (pe_op oAdd pe_int (pD D__law_draw hr pass0 (pa_cons (pq 0) (pa_cons (pq 2) pa_nil)))) pa_nil)) (fun cl C s3 H3 fp => (pg_name (i := 0) nb_5 rfl (by first | exact Or.inl rfl | exact Or.inr rfl))) (fun cl C s3 H3 fp => pts_nil) (fun cl C s3 H3 fp => (pD D__law_rule hr pass0 (pa_cons (pq 1) (pa_cons (pq 2) (pa_cons (pq 3) pa_nil))))) (.skip (.take rfl rfl (by first | exact Or.inl rfl | exact Or.inr rfl) (.take rfl rfl (by first | exact Or.inl rfl | exact Or.inr rfl) (.take rfl rfl (by first | exact Or.inl rfl | exact Or.inr rfl) .nil))))) pa_nil)))))))), ?_⟩
  walk_at "wh"
  refine draw_rd hL (by omega) (by omega) (by omega) (fun d1 H1 d10 d11 c1 L1 => ?_)
  obtain ⟨n, rfl⟩ : ∃ n : Nat, d1 = n := ⟨d1.toNat, by omega⟩
  walk_at "wh"
  refine draw_rd L1 (by omega) (by omega) (by omega) (fun d2 H2 d20 d21 c2 L2 => ?_)
  obtain ⟨m, rfl⟩ : ∃ n : Nat, d2 = n := ⟨d2.toNat, by omega⟩
  walk_at "wh"
  refine draw_rd L2 (by omega) (by omega) (by omega) (fun d3 H3 d30 d31 c3 L3 => ?_)
  have c03 := (c1.trans c2).trans c3
  walk_at "wh"
  refine range_rd (by decide) (by decide) (by omega) (by omega) ?_
  obtain ⟨z, ez⟩ : ∃ z : Nat, (1 + d3 - 0).toNat = z := ⟨_, rfl⟩
  rw [ez]
  have hz : 1 ≤ z ∧ z ≤ 5 := by omega
  refine comp_rangeV (by rw [sizeLine_eq]; omega) (fun acc H4 f4 s4 h4 => ?_)
  have na : acc ≠ a := L3.ne f4
  have facc : H acc = none := Chg.free' c03 f4 na
  refine ⟨fun j ys σ H5 => ∃ (t : Option V) (qs : List Addr) (fs : List Fd), σ = [t, some (.ref a), some (.int n), some (.int m)] ∧ ys = qs.map V.ref ∧ qs.length = j ∧ fs.length = j ∧ LeftAt H5 a (b + 12 + 1000 * j) ∧ Chg2 a acc H3 H5 ∧ ∀ (k : Nat) q f, qs[k]? = some q → fs[k]? = some f → FdAt (rm a (rm acc H5)) q n m f ∧ f.Ok, ?_, ?_, ?_⟩
  · exact ⟨none, [], [], rfl, rfl, rfl, rfl, (L3.same s4).up (by omega), s4.to2, fun k q f e => by simp at e⟩
  · rintro j m' ys σ H5 hj hm hl h5 ⟨t, qs, fs, rfl, rfl, ql, fl, L5, c5, pr⟩
    have hj : j < z := hj
    obtain ⟨oa, ea⟩ := L5.some
    walk_at "wh"
    refine br_T ?_
    walk_at "wh"
    refine rule_rd L5 (by omega) (by omega) (by omega) (fun p6 f H6 c6 L6 F6 ok => ?_)
    walk_at "wh"
    refine cputV_rd hj hm hl (c6 _ _ na h5) (fun H7 c7 h7 => ?_)
    refine ⟨_, qs ++ [p6], fs ++ [f], rfl, by rw [List.map_append]; rfl, by rw [List.length_append, ql]; rfl, by rw [List.length_append, fl]; rfl, (L6.chg c7 (Ne.symm na)).up (by omega), (c5.trans c6.toL).trans c7.toR, fun k p f' g1 g2 => ?_⟩
    by_cases hk : k < qs.length
    · rw [List.getElem?_append_left hk] at g1
      rw [List.getElem?_append_left (by omega)] at g2
      obtain ⟨y1, y2⟩ := pr k p f' g1 g2
      refine ⟨y1.same (fun b o e => ?_), y2⟩
      have e1 := rm_of e
      have e2 := rm_of e1.2
      exact rm_at e1.1 (rm_at e2.1 (c7 _ _ e2.1 (c6 _ _ e1.1 e2.2)))
    · rw [List.getElem?_append_right (by omega)] at g1 g2
      have k0 : k - qs.length = 0 := by
        have := (List.getElem?_eq_some_iff.mp g1).1
        simp at this; omega
      rw [k0] at g1
      rw [show k - fs.length = 0 by omega] at g2
      cases g1
      cases g2
      refine ⟨F6.same (fun b o e => ?_), ok⟩
      have e1 := nw_of e
      have n1 : b ≠ a := fun w => by rw [w, ea] at e1; cases e1.1
      have n2 : b ≠ acc := fun w => by rw [w, h5] at e1; cases e1.1
      exact rm_at n1 (rm_at n2 (c7 _ _ n2 e1.2))
  · rintro ys σ H5 h5 ⟨t, qs, fs, rfl, rfl, ql, fl, L5, c5, pr⟩
    have c05 : Chg a H H5 := fun b o z1 e => c5 _ _ z1 (ne_of_none e facc) (c03 _ _ z1 e)
    walk_at "wh"
    refine newT_rd (fun p7 H7 f7 s7 h7 => ?_)
    walk_at "wh"
    exact q p7 acc qs n m fs H7 (c05.same s7) ((L5.same s7).up (by omega)) ⟨rm_at (L5.ne f7) h7, rm_at na (s7 _ _ h5), by omega, fun i p f g1 g2 => ⟨((pr i p f g1 g2).1.same (Same.rm (rm_same acc H5))).same (Same.rm s7), (pr i p f g1 g2).2⟩⟩ ⟨⟨by omega, by omega⟩, by omega⟩
/-! ### the law's own rising -/
@[irreducible] def sp__law_paid : Sp := fun vs H Q _ => ∃ (p : Addr) (a c x y : Nat) (f : Fd), vs = [.ref p, .int x, .int y] ∧ FdAt H p a c f ∧ x ≤ a ∧ y ≤ c ∧ ∀ H', Same H H' → Q (.int (f.won x y)) H'
theorem paid_rd {H : Hp} {p : Addr} {a c x y : Nat} {f : Fd} {Q : VK} {E : XK} (F : FdAt H p a c f) (h1 : x ≤ a) (h2 : y ≤ c) (q : ∀ H', Same H H' → Q (.int (f.won x y)) H') : sp__law_paid [.ref p, .int x, .int y] H Q E := by unfold sp__law_paid; exact ⟨p, a, c, x, y, f, rfl, F, h1, h2, q⟩
theorem ok__law_paid {f : Addr} {fd : FuncData} (F : Fun K "_law_paid" "_law_paid" s__law_paid f fd) (N : Nm mg) : FnOk P w K mg base CX0 1 f fd ["_law_field", "_law_x", "_law_y"] sp__law_paid := by
  refine F.ok sc__law_paid (fun vs H Q E h => by unfold sp__law_paid at h; obtain ⟨_, _, _, _, _, _, rfl, _⟩ := h; rfl) (fun cdv A outer s H vs Q E hr h => ?_)
  unfold sp__law_paid at h
  obtain ⟨p, a, c, x, y, f, rfl, F, h1, h2, q⟩ := h
  have hu := hu40 hr
  refine ⟨_, (pss_cons (psIf (ptC (oEqK (K := K) rfl (by exact hu)) (peIxK (K := K) rfl (pq 0) pe_int) pe_str) (pss_one (ps_ret (peIxK (K := K) rfl (peIxK (K := K) rfl (peIxK (K := K) rfl (pq 0) pe_int) (pq 1)) (pq 2)))) pss_nil)
      (pss_cons (psIf (ptC (oEqK (K := K) rfl (by exact hu)) (peIxK (K := K) rfl (pq 0) pe_int) pe_str) (pss_one (ps_ret (peIxK (K := K) rfl (peLst (pa_cons (pe_op oSub pe_int (peIxK (K := K) rfl (pq 0) pe_int)) (pa_cons (peIxK (K := K) rfl (pq 0) pe_int) pa_nil))) (pT cInt N.int_ bt_int (pa_cons (peC oGe (pe_op oSub (pq 1) (pq 2)) (peIxK (K := K) rfl (pq 0) pe_int)) pa_nil))))) pss_nil)
      (pss_one (ps_ret (peIxK (K := K) rfl (peLst (pa_cons (pe_op oSub pe_int (peIxK (K := K) rfl (pq 0) pe_int)) (pa_cons (peIxK (K := K) rfl (pq 0) pe_int) (pa_cons (peIxK (K := K) rfl (pq 0) pe_int) pa_nil)))) (pe_op oAdd (pT cInt N.int_ bt_int (pa_cons (peC oGe (pq 1) (pq 2)) pa_nil)) (pT cInt N.int_ bt_int (pa_cons (peC oGt (pq 1) (pq 2)) pa_nil)))))))), ?_⟩
  cases f with
  | more wt t =>
    have F : H p = some (.tup [.str "more", .int wt, .int t]) := F
    walk_at "wh"
    refine ixT_rd (v := .str "more") F rfl ?_
    walk_at "wh"
    refine br_dF (by decide) ?_
    walk_at "wh"
    refine ixT_rd (v := .str "more") F rfl ?_
    walk_at "wh"
    refine br_dF (by decide) ?_
    walk_at "wh"
    refine ixT_rd (v := .int wt) F rfl ?_
    walk_at "wh"
    refine ixT_rd (v := .int t) F rfl ?_
    walk_at "wh"
    refine ixT_rd (v := .int wt) F rfl ?_
    walk_at "wh"
    refine newL_rd (fun p1 H1 f1 s1 h1' => ?_)
    have q : Q (.int (if x = y then t else if y < x then wt else -wt)) H1 := q _ s1
    walk_at "wh"
    by_cases e : x = y
    · rw [if_pos e] at q
      refine ixL_rd (v := .int t) h1' ?_ q
      rw [decide_eq_true (show (y : Int) ≤ (x : Int) by omega), decide_eq_false (show ¬ (y : Int) < (x : Int) by omega)]
      rfl
    · rw [if_neg e] at q
      by_cases g : y < x
      · rw [if_pos g] at q
        refine ixL_rd (v := .int wt) h1' ?_ q
        rw [decide_eq_true (show (y : Int) ≤ (x : Int) by omega), decide_eq_true (show (y : Int) < (x : Int) by omega)]
        rfl
      · rw [if_neg g] at q
        refine ixL_rd (v := .int (-wt)) h1' ?_ q
        rw [decide_eq_false (show ¬ (y : Int) ≤ (x : Int) by omega), decide_eq_false (show ¬ (y : Int) < (x : Int) by omega)]
        show some (V.int (0 - wt)) = some (V.int (-wt))
        congr 2
        omega
  | lead wt l =>
    have F : H p = some (.tup [.str "lead", .int wt, .int l]) := F
    walk_at "wh"
    refine ixT_rd (v := .str "lead") F rfl ?_
    walk_at "wh"
    refine br_dF (by decide) ?_
    walk_at "wh"
    refine ixT_rd (v := .str "lead") F rfl ?_
    walk_at "wh"
    refine br_dT rfl ?_
    walk_at "wh"
    refine ixT_rd (v := .int wt) F rfl ?_
    walk_at "wh"
    refine ixT_rd (v := .int wt) F rfl ?_
    walk_at "wh"
    refine newL_rd (fun p1 H1 f1 s1 h1' => ?_)
    have q : Q (.int (if l ≤ (x : Int) - y then wt else -wt)) H1 := q _ s1
    walk_at "wh"
    refine ixT_rd (v := .int l) (s1 _ _ F) rfl ?_
    walk_at "wh"
    by_cases g : l ≤ (x : Int) - y
    · rw [if_pos g] at q
      refine ixL_rd (v := .int wt) h1' ?_ q
      rw [decide_eq_true g]
      rfl
    · rw [if_neg g] at q
      refine ixL_rd (v := .int (-wt)) h1' ?_ q
      rw [decide_eq_false g]
      show some (V.int (0 - wt)) = some (V.int (-wt))
      congr 2
      omega
  | tab g =>
    obtain ⟨q', ps, F, G⟩ := F
    obtain ⟨r, er, hr'⟩ := G.some (i := x) (by omega)
    walk_at "wh"
    refine ixT_rd (v := .str "table") F rfl ?_
    walk_at "wh"
    refine br_dT rfl ?_
    walk_at "wh"
    refine ixT_rd (v := .ref q') F rfl ?_
    walk_at "wh"
    refine ixL_rd (v := .ref r) G.out (atI_nat (by rw [List.getElem?_map, er]; rfl)) ?_
    walk_at "wh"
    refine ixL_rd (v := .int (g x y)) hr' (atI_nat (rowV_get (by omega))) ?_
    walk_at "wh"
    exact q _ (Same.refl _)
-- @@split
/-! ### what is won, counted; rising, even, exchanged -/
@[irreducible] def sp_pay : Sp := fun vs H Q _ => ∃ (b l : Addr) (ps : List Addr) (a c : Nat) (fs : List Fd) (k x y : Nat) (f : Fd), vs = [.ref b, .int k, .int x, .int y] ∧ BatAt H b l ps a c fs ∧ OkB a c fs ∧ fs[k]? = some f ∧ x ≤ a ∧ y ≤ c ∧ ∀ H', Same H H' → Q (.int (f.won x y)) H'
theorem pay_rd {H : Hp} {b l : Addr} {ps : List Addr} {a c : Nat} {fs : List Fd} {k x y : Nat} {f : Fd} {Q : VK} {E : XK} (B : BatAt H b l ps a c fs) (O : OkB a c fs) (ef : fs[k]? = some f) (h1 : x ≤ a) (h2 : y ≤ c) (q : ∀ H', Same H H' → Q (.int (f.won x y)) H') : sp_pay [.ref b, .int k, .int x, .int y] H Q E := by unfold sp_pay; exact ⟨b, l, ps, a, c, fs, k, x, y, f, rfl, B, O, ef, h1, h2, q⟩
theorem ok_pay {f : Addr} {fd : FuncData} (F : Fun K "pay" "pay" s_pay f fd) (N : Nm mg) (D_is_between : Def P w K mg base CX0 3 "is_between" ["thing", "least", "most"] sp_is_between) (D_look_battle : Def P w K mg base CX0 6 "look_battle" ["battle"] sp_look_battle) (D_won : Def P w K mg base CX0 1 "won" ["field", "x", "y"] sp_won) : FnOk P w K mg base CX0 7 f fd ["battle", "field", "x", "y"] sp_pay := by
  refine F.ok sc_pay (fun vs H Q E h => by unfold sp_pay at h; obtain ⟨_, _, _, _, _, _, _, _, _, _, rfl, _⟩ := h; rfl) (fun cdv A outer s H vs Q E hr h => ?_)
  unfold sp_pay at h
  obtain ⟨b, l, ps, a, c, fs, k, x, y, f, rfl, B, O, ef, h1, h2, q⟩ := h
  have bl := B.len
  have kl := (List.getElem?_eq_some_iff.mp ef).1
  obtain ⟨p, ep⟩ : ∃ p, ps[k]? = some p := ⟨_, List.getElem?_eq_getElem (by omega)⟩
  refine ⟨_, (pss_cons (ps_expr (pD D_look_battle hr pass0 (pa_cons (pq 0) pa_nil)))
      (pss_cons (psIf (pt_not (ptV (pD D_is_between hr pass0 (pa_cons (pq 1) (pa_cons pe_int (pa_cons (pe_op oSub (pB (cLenK (K := K) rfl) N.len_ bt_len (pa_cons (peIxK (K := K) rfl (pq 0) pe_int) pa_nil)) pe_int) pa_nil)))))) (pss_one ps_never) pss_nil)
      (pss_cons (psIf (ptW (pwOr (pt_not (ptV (pD D_is_between hr pass0 (pa_cons (pq 2) (pa_cons pe_int (pa_cons (peIxK (K := K) rfl (pq 0) pe_int) pa_nil)))))) (pw_or1 (pt_not (ptV (pD D_is_between hr pass0 (pa_cons (pq 3) (pa_cons pe_int (pa_cons (peIxK (K := K) rfl (pq 0) pe_int) pa_nil))))))))) (pss_one ps_never) pss_nil)
      (pss_one (ps_ret (pD D_won hr pass0 (pa_cons (peIxK (K := K) rfl (peIxK (K := K) rfl (pq 0) pe_int) (pq 1)) (pa_cons (pq 2) (pa_cons (pq 3) pa_nil))))))))), ?_⟩
  walk_at "wh"
  refine look_battle_rd B O (fun H1 s1 => ?_)
  have B1 := B.same s1
  walk_at "wh"
  refine ixT_rd (v := .ref l) B1.out rfl ?_
  walk_at "wh"
  refine lenL_rd B1.lst ?_
  rw [List.length_map, bl]
  walk_at "wh"
  refine isb_rd ?_
  rw [decide_eq_true ⟨by omega, by omega⟩]
  walk_at "wh"
  refine br_not (br_T ?_)
  walk_at "wh"
  refine ixT_rd (v := .int a) B1.out rfl ?_
  walk_at "wh"
  refine isb_rd ?_
  rw [decide_eq_true ⟨by omega, by omega⟩]
  walk_at "wh"
  refine br_not (br_T ?_)
  walk_at "wh"
  refine ixT_rd (v := .int c) B1.out rfl ?_
  walk_at "wh"
  refine isb_rd ?_
  rw [decide_eq_true ⟨by omega, by omega⟩]
  walk_at "wh"
  refine br_not (br_T ?_)
  walk_at "wh"
  refine ixT_rd (v := .ref l) B1.out rfl ?_
  walk_at "wh"
  refine ixL_rd (v := .ref p) B1.lst (atI_nat (by rw [List.getElem?_map, ep]; rfl)) ?_
  walk_at "wh"
  refine won_rd (B1.fld k p f ep ef).1 h1 h2 ?_
  walk_at "wh"
  exact q _ s1
/-! rising -/
def Fd.Rise (f : Fd) (a c : Nat) : Prop := ∀ x y, x ≤ a → y ≤ c → (x < a → f.won x y ≤ f.won (x + 1) y) ∧ (y < c → f.won x (y + 1) ≤ f.won x y)
noncomputable def riseB (f : Fd) (a c : Nat) : Bool := @decide (f.Rise a c) (Classical.propDecidable _)
theorem riseB_T {f : Fd} {a c : Nat} (h : f.Rise a c) : riseB f a c = true := by unfold riseB; exact @decide_eq_true _ (Classical.propDecidable _) h
theorem riseB_F {f : Fd} {a c : Nat} (h : ¬ f.Rise a c) : riseB f a c = false := by unfold riseB; exact @decide_eq_false _ (Classical.propDecidable _) h
theorem riseB_iff {f : Fd} {a c : Nat} : riseB f a c = true ↔ f.Rise a c := ⟨fun h => by unfold riseB at h; exact @of_decide_eq_true _ (Classical.propDecidable _) h, riseB_T⟩
@[irreducible] def sp_field_rises : Sp := fun vs H Q _ => ∃ (p : Addr) (a c : Nat) (f : Fd), vs = [.int a, .int c, .ref p] ∧ FdAt H p a c f ∧ a ≤ 10 ∧ c ≤ 10 ∧ Q (.bl (riseB f a c)) H
theorem field_rises_rd {H : Hp} {p : Addr} {a c : Nat} {f : Fd} {Q : VK} {E : XK} (F : FdAt H p a c f) (h1 : a ≤ 10) (h2 : c ≤ 10) (q : Q (.bl (riseB f a c)) H) : sp_field_rises [.int a, .int c, .ref p] H Q E := by unfold sp_field_rises; exact ⟨p, a, c, f, rfl, F, h1, h2, q⟩
theorem ok_field_rises {f : Addr} {fd : FuncData} (F : Fun K "field_rises" "field_rises" s_field_rises f fd) (N : Nm mg) (D_won : Def P w K mg base CX0 1 "won" ["field", "x", "y"] sp_won) : FnOk P w K mg base CX0 2 f fd ["first", "second", "field"] sp_field_rises := by
  refine F.ok sc_field_rises (fun vs H Q E h => by unfold sp_field_rises at h; obtain ⟨_, _, _, _, rfl, _⟩ := h; rfl) (fun cdv A outer s H vs Q E hr h => ?_)
  unfold sp_field_rises at h
  obtain ⟨p, a, c, f, rfl, F, h1, h2, q⟩ := h
  refine ⟨_, (pss_cons (psFor PassesOwn.never rfl (piRng1 N.range_ (pa_cons (pe_op oAdd (pq 0) pe_int) pa_nil)) (pg_name (i := 3) sc_field_rises.nd rfl (by first | exact Or.inl rfl | exact Or.inr rfl)) (pss_one (psFor PassesOwn.never rfl (piRng1 N.range_ (pa_cons (pe_op oAdd (pq 1) pe_int) pa_nil)) (pg_name (i := 4) sc_field_rises.nd rfl (by first | exact Or.inl rfl | exact Or.inr rfl)) (pss_cons (psS (i := 5) sc_field_rises.nd (pD D_won hr pass0 (pa_cons (pq 2) (pa_cons (pq 3) (pa_cons (pq 4) pa_nil)))))
      (pss_cons (psIf (ptW (pwAnd (ptC oLt (pq 3) (pq 0)) (pw_and1 (ptC oLt (pD D_won hr pass0 (pa_cons (pq 2) (pa_cons (pe_op oAdd (pq 3) pe_int) (pa_cons (pq 4) pa_nil)))) (pq 5))))) (pss_one (ps_ret pe_bl)) pss_nil)
      (pss_one (psIf (ptW (pwAnd (ptC oLt (pq 4) (pq 1)) (pw_and1 (ptC oGt (pD D_won hr pass0 (pa_cons (pq 2) (pa_cons (pq 3) (pa_cons (pe_op oAdd (pq 4) pe_int) pa_nil)))) (pq 5))))) (pss_one (ps_ret pe_bl)) pss_nil)))))))
      (pss_one (ps_ret pe_bl))), ?_⟩
  walk_at "wh"
  refine range_rd (by decide) (by decide) (by omega) (by omega) ?_
  rw [show ((a : Int) + 1 - 0).toNat = a + 1 by omega]
  refine loop_range (fun i σ H1 => ∃ u v t : Option V, σ = [some (.int a), some (.int c), some (.ref p), u, v, t] ∧ H1 = H ∧ ∀ x y, x < i → y ≤ c → (x < a → f.won x y ≤ f.won (x + 1) y) ∧ (y < c → f.won x (y + 1) ≤ f.won x y)) ?_ ?_ ?_
  · exact ⟨_, _, _, rfl, rfl, fun x y h => by omega⟩
  · rintro i σ H1 hi ⟨u, v, t, rfl, rfl, inv⟩
    have hi : i < a + 1 := hi
    walk_at "wh"
    refine range_rd (by decide) (by decide) (by omega) (by omega) ?_
    rw [show ((c : Int) + 1 - 0).toNat = c + 1 by omega]
    refine loop_range (fun j σ H2 => ∃ v t : Option V, σ = [some (.int a), some (.int c), some (.ref p), some (.int (0 + i)), v, t] ∧ H2 = H1 ∧ ∀ y, y < j → (i < a → f.won i y ≤ f.won (i + 1) y) ∧ (y < c → f.won i (y + 1) ≤ f.won i y)) ?_ ?_ ?_
    · exact ⟨_, _, rfl, rfl, fun y h => by omega⟩
    · rintro j σ H2 hj ⟨v', t', rfl, rfl, inv2⟩
      have hj : j < c + 1 := hj
      walk_at "wh"
      rw [show (0 : Int) + (i : Int) = ((i : Nat) : Int) by omega, show (0 : Int) + (j : Int) = ((j : Nat) : Int) by omega]
      refine won_rd (x := i) (y := j) F (by omega) (by omega) ?_
      walk_at "wh"
      refine br_dec (fun g1 => ?_) (fun g1 => ?_)
      · walk_at "wh"
        rw [show (i : Int) + 1 = ((i + 1 : Nat) : Int) by omega]
        refine won_rd (x := i + 1) (y := j) F (by omega) (by omega) ?_
        walk_at "wh"
        refine br_dec (fun g2 => ?_) (fun g2 => ?_)
        · walk_at "wh"
          rw [riseB_F (fun z => by have := (z i j (by omega) (by omega)).1 (by omega); omega)] at q
          exact q
        · walk_at "wh"
          refine br_dec (fun g3 => ?_) (fun g3 => ?_)
          · walk_at "wh"
            rw [show (j : Int) + 1 = ((j + 1 : Nat) : Int) by omega]
            refine won_rd (x := i) (y := j + 1) F (by omega) (by omega) ?_
            walk_at "wh"
            refine br_dec (fun g4 => ?_) (fun g4 => ?_)
            · walk_at "wh"
              rw [riseB_F (fun z => by have := (z i j (by omega) (by omega)).2 (by omega); omega)] at q
              exact q
            · walk_at "wh"
              refine ⟨_, _, rfl, rfl, fun y hy => ?_⟩
              by_cases e : y = j
              · subst e; exact ⟨fun _ => by omega, fun _ => by omega⟩
              · exact inv2 y (by omega)
          · walk_at "wh"
            refine br_F ?_
            walk_at "wh"
            refine ⟨_, _, rfl, rfl, fun y hy => ?_⟩
            by_cases e : y = j
            · subst e; exact ⟨fun _ => by omega, fun z => by omega⟩
            · exact inv2 y (by omega)
      · walk_at "wh"
        refine br_F ?_
        walk_at "wh"
        refine br_dec (fun g3 => ?_) (fun g3 => ?_)
        · walk_at "wh"
          rw [show (j : Int) + 1 = ((j + 1 : Nat) : Int) by omega]
          refine won_rd (x := i) (y := j + 1) F (by omega) (by omega) ?_
          walk_at "wh"
          refine br_dec (fun g4 => ?_) (fun g4 => ?_)
          · walk_at "wh"
            rw [riseB_F (fun z => by have := (z i j (by omega) (by omega)).2 (by omega); omega)] at q
            exact q
          · walk_at "wh"
            refine ⟨_, _, rfl, rfl, fun y hy => ?_⟩
            by_cases e : y = j
            · subst e; exact ⟨fun z => by omega, fun _ => by omega⟩
            · exact inv2 y (by omega)
        · walk_at "wh"
          refine br_F ?_
          walk_at "wh"
          refine ⟨_, _, rfl, rfl, fun y hy => ?_⟩
          by_cases e : y = j
          · subst e; exact ⟨fun z => by omega, fun z => by omega⟩
          · exact inv2 y (by omega)
    · rintro σ H2 ⟨v', t', rfl, rfl, inv2⟩
      refine ⟨_, _, _, rfl, rfl, fun x y hx hy => ?_⟩
      by_cases e : x = i
      · subst e; exact inv2 y (by omega)
      · exact inv x y (by omega) hy
  · rintro σ H1 ⟨u, v, t, rfl, rfl, inv⟩
    walk_at "wh"
    rw [riseB_T (fun x y hx hy => inv x y (by omega) hy)] at q
    exact q
/-! ### even and rising battles -/
theorem all_range_eq {n : Nat} {g : Nat → Bool} {b : Bool} (hT : b = true → ∀ i, i < n → g i = true) (hF : b = false → ∃ i, i < n ∧ g i = false) : ((List.range n).map g).all id = b := by
  rw [List.all_map]
  cases b with
  | true => exact List.all_eq_true.mpr fun i hi => hT rfl i (List.mem_range.mp hi)
  | false =>
    obtain ⟨i, hi, e⟩ := hF rfl
    rw [Bool.eq_false_iff]
    intro z
    have := List.all_eq_true.mp z i (List.mem_range.mpr hi)
    rw [show ((id ∘ g) i) = g i from rfl, e] at this
    cases this
def mapF (g : Fd → Bool) (fs : List Fd) (i : Nat) : Bool := match fs[i]? with
  | some f => g f
  | none => true
theorem mapF_all (g : Fd → Bool) (fs : List Fd) : ((List.range fs.length).map (mapF g fs)).all id = fs.all g := by
  refine all_range_eq (fun h i hi => ?_) (fun h => ?_)
  · unfold mapF
    rw [List.getElem?_eq_getElem hi]
    exact List.all_eq_true.mp h _ (List.getElem_mem hi)
  · have : ¬ ∀ f ∈ fs, g f = true := fun z => by rw [List.all_eq_true.mpr z] at h; cases h
    have ⟨f, hf, e⟩ : ∃ f, f ∈ fs ∧ ¬ g f = true := Classical.byContradiction fun z => this fun f hf => Classical.byContradiction fun y => z ⟨f, hf, y⟩
    obtain ⟨i, hi⟩ := List.getElem?_of_mem hf
    refine ⟨i, (List.getElem?_eq_some_iff.mp hi).1, ?_⟩
    unfold mapF
    rw [hi]
    exact Bool.eq_false_iff.mpr e
theorem bl_range (n : Nat) (g : Nat → Bool) : ((List.range n).map fun i => V.bl (g i)) = ((List.range n).map g).map V.bl := by rw [List.map_map]; rfl
noncomputable def riseA (a c : Nat) (fs : List Fd) : Bool := fs.all fun f => riseB f a c
@[irreducible] def sp_rises : Sp := fun vs H Q _ => ∃ (b l : Addr) (ps : List Addr) (a c : Nat) (fs : List Fd), vs = [.ref b] ∧ BatAt H b l ps a c fs ∧ OkB a c fs ∧ ∀ H', Same H H' → Q (.bl (riseA a c fs)) H'
theorem rises_rd {H : Hp} {b l : Addr} {ps : List Addr} {a c : Nat} {fs : List Fd} {Q : VK} {E : XK} (B : BatAt H b l ps a c fs) (O : OkB a c fs) (q : ∀ H', Same H H' → Q (.bl (riseA a c fs)) H') : sp_rises [.ref b] H Q E := by unfold sp_rises; exact ⟨b, l, ps, a, c, fs, rfl, B, O, q⟩
theorem ok_rises {f : Addr} {fd : FuncData} (F : Fun K "rises" "rises" s_rises f fd) (N : Nm mg) (D_field_rises : Def P w K mg base CX0 2 "field_rises" ["first", "second", "field"] sp_field_rises) (D_look_battle : Def P w K mg base CX0 6 "look_battle" ["battle"] sp_look_battle) : FnOk P w K mg base CX0 7 f fd ["battle"] sp_rises := by
  refine F.ok sc_rises (fun vs H Q E h => by unfold sp_rises at h; obtain ⟨_, _, _, _, _, _, rfl, _⟩ := h; rfl) (fun cdv A outer s H vs Q E hr h => ?_)
  unfold sp_rises at h
  obtain ⟨b, l, ps, a, c, fs, rfl, B, O, q⟩ := h
  have bl := B.len
  refine ⟨_, (pss_cons (ps_expr (pD D_look_battle hr pass0 (pa_cons (pq 0) pa_nil)))
      (pss_one (ps_ret (pB (cAllK (K := K) rfl rfl) N.all_ bt_all (pa_cons (peComp (N := ["field", "battle"]) (ks := [none, some 0]) (piSeqK (K := K) rfl (peIxK (K := K) rfl (pq 0) pe_int)) (fun cl C s3 H3 fp => (pg_name (i := 0) nb_2 rfl (by first | exact Or.inl rfl | exact Or.inr rfl))) (fun cl C s3 H3 fp => pts_nil) (fun cl C s3 H3 fp => (pD D_field_rises hr pass0 (pa_cons (peIxK (K := K) rfl (pq 1) pe_int) (pa_cons (peIxK (K := K) rfl (pq 1) pe_int) (pa_cons (pq 0) pa_nil))))) (.skip (.take rfl rfl (by first | exact Or.inl rfl | exact Or.inr rfl) .nil))) pa_nil))))), ?_⟩
  walk_at "wh"
  refine look_battle_rd B O (fun H1 s1 => ?_)
  have B1 := B.same s1
  walk_at "wh"
  refine ixT_rd (v := .ref l) B1.out rfl ?_
  walk_at "wh"
  refine iterL_rd B1.lst ?_
  refine comp_I (Wk.list (SqL.of B1.lst)) (by rw [List.length_map, sizeLine_eq]; omega) (fun i => .bl (mapF (fun f => riseB f a c) fs i)) (fun _ => true) (fun j σ => ∃ t : Option V, σ = [t, some (.ref b)]) ⟨none, rfl⟩ ?_ ?_
  · rintro j v σ H2 R S hj s2 hx ⟨t, rfl⟩ k _
    have B2 := B1.same s2
    obtain ⟨p, f, rfl, ep, ef, hf, ok⟩ := B2.elt hx
    have em : mapF (fun f => riseB f a c) fs j = riseB f a c := by unfold mapF; rw [ef]
    walk_at "wh"
    refine br_T ?_
    walk_at "wh"
    refine ixT_rd (v := .int a) B2.out rfl ?_
    walk_at "wh"
    refine ixT_rd (v := .int c) B2.out rfl ?_
    walk_at "wh"
    refine field_rises_rd hf O.1.1 O.1.2 ?_
    walk_at "wh"
    rw [em] at k
    exact k rfl _ _ (Same.refl _) ⟨_, rfl⟩
  intro acc H2 f2 s2 h2
  rw [filter_T, List.length_map, bl, bl_range] at h2
  walk_at "wh"
  refine all_rd h2 ?_
  rw [mapF_all]
  walk_at "wh"
  exact q _ (s1.trans s2)
-- @@split
abbrev Pris (f : Fd) (x y : Nat) : Prop := (0 < x → f.won (x - 1) y ≤ f.won x y) ∧ (0 < y → f.won x y ≤ f.won x (y - 1))
theorem rise_iff {f : Fd} {a c : Nat} : f.Rise a c ↔ ∀ x y, x ≤ a → y ≤ c → Pris f x y := by
  constructor
  · intro h x y hx hy
    refine ⟨fun h0 => ?_, fun h0 => ?_⟩
    · have := (h (x - 1) y (by omega) hy).1 (by omega)
      rwa [show x - 1 + 1 = x by omega] at this
    · have := (h x (y - 1) hx (by omega)).2 (by omega)
      rwa [show y - 1 + 1 = y by omega] at this
  · intro h x y hx hy
    exact ⟨fun z => by have := (h (x + 1) y (by omega) hy).1 (by omega); rwa [show x + 1 - 1 = x by omega] at this, fun z => by have := (h x (y + 1) hx (by omega)).2 (by omega); rwa [show y + 1 - 1 = y by omega] at this⟩
theorem riseA_T {a c : Nat} {fs : List Fd} (h : ∀ f ∈ fs, f.Rise a c) : riseA a c fs = true := by
  unfold riseA
  exact List.all_eq_true.mpr fun f hf => riseB_T (h f hf)
theorem riseA_F {a c : Nat} {fs : List Fd} {f : Fd} (hf : f ∈ fs) (h : ¬ f.Rise a c) : riseA a c fs = false := by
  rw [Bool.eq_false_iff]
  intro z
  unfold riseA at z
  exact h (riseB_iff.mp (List.all_eq_true.mp z f hf))
@[irreducible] def sp__law_rises : Sp := fun vs H Q _ => ∃ (b l : Addr) (ps : List Addr) (a c : Nat) (fs : List Fd), vs = [.ref b] ∧ BatAt H b l ps a c fs ∧ OkB a c fs ∧ ∀ H', Same H H' → Q (.bl (riseA a c fs)) H'
theorem law_rises_rd {H : Hp} {b l : Addr} {ps : List Addr} {a c : Nat} {fs : List Fd} {Q : VK} {E : XK} (B : BatAt H b l ps a c fs) (O : OkB a c fs) (q : ∀ H', Same H H' → Q (.bl (riseA a c fs)) H') : sp__law_rises [.ref b] H Q E := by unfold sp__law_rises; exact ⟨b, l, ps, a, c, fs, rfl, B, O, q⟩
set_option maxHeartbeats 0 in
theorem ok__law_rises {f : Addr} {fd : FuncData} (F : Fun K "_law_rises" "_law_rises" s__law_rises f fd) (N : Nm mg) (D__law_paid : Def P w K mg base CX0 1 "_law_paid" ["_law_field", "_law_x", "_law_y"] sp__law_paid) : FnOk P w K mg base CX0 2 f fd ["_law_battle_here"] sp__law_rises := by
  refine F.ok sc__law_rises (fun vs H Q E h => by unfold sp__law_rises at h; obtain ⟨_, _, _, _, _, _, rfl, _⟩ := h; rfl) (fun cdv A outer s H vs Q E hr h => ?_)
  unfold sp__law_rises at h
  obtain ⟨b, l, ps, a, c, fs, rfl, B, O, q⟩ := h
  have bl := B.len
  have o1 := O.1
  refine ⟨_, (pss_cons (ps_asg (pq 0) (pgAnyK (K := K) (n := 3) rfl rfl (pgsCons (pg_name (i := 1) sc__law_rises.nd rfl (by first | exact Or.inl rfl | exact Or.inr rfl)) (pgsCons (pg_name (i := 2) sc__law_rises.nd rfl (by first | exact Or.inl rfl | exact Or.inr rfl)) (pgsCons (pg_name (i := 3) sc__law_rises.nd rfl (by first | exact Or.inl rfl | exact Or.inr rfl)) pgsNil)))))
      (pss_cons (psFor PassesOwn.never rfl (piSeqK (K := K) rfl (pq 3)) (pg_name (i := 4) sc__law_rises.nd rfl (by first | exact Or.inl rfl | exact Or.inr rfl)) (pss_one (psFor PassesOwn.never rfl (piRng1 N.range_ (pa_cons (pe_op oAdd (pq 1) pe_int) pa_nil)) (pg_name (i := 5) sc__law_rises.nd rfl (by first | exact Or.inl rfl | exact Or.inr rfl)) (pss_one (psFor PassesOwn.never rfl (piRng1 N.range_ (pa_cons (pe_op oAdd (pq 2) pe_int) pa_nil)) (pg_name (i := 6) sc__law_rises.nd rfl (by first | exact Or.inl rfl | exact Or.inr rfl)) (pss_cons (psS (i := 7) sc__law_rises.nd (pD D__law_paid hr pass0 (pa_cons (pq 4) (pa_cons (pq 5) (pa_cons (pq 6) pa_nil)))))
      (pss_one (psIf (ptW (pwOr (ptW (pwAnd (ptC oGt (pq 5) pe_int) (pw_and1 (ptC oGt (pD D__law_paid hr pass0 (pa_cons (pq 4) (pa_cons (pe_op oSub (pq 5) pe_int) (pa_cons (pq 6) pa_nil)))) (pq 7))))) (pw_or1 (ptW (pwAnd (ptC oGt (pq 6) pe_int) (pw_and1 (ptC oLt (pD D__law_paid hr pass0 (pa_cons (pq 4) (pa_cons (pq 5) (pa_cons (pe_op oSub (pq 6) pe_int) pa_nil)))) (pq 7)))))))) (pss_one (ps_ret pe_bl)) pss_nil))))))))
      (pss_one (ps_ret pe_bl)))), ?_⟩
  walk_at "wh"
  refine unpT_rd B.out ?_
  walk_at "wh"
  refine iterL_rd B.lst ?_
  refine loop_list (xs := ps.map V.ref) (fun i σ H1 => ∃ t1 t2 t3 t4 : Option V, σ = [some (.ref b), some (.int a), some (.int c), some (.ref l), t1, t2, t3, t4] ∧ Same H H1 ∧ ∀ (j : Nat) f, j < i → fs[j]? = some f → f.Rise a c) ?_ ?_ ?_ ?_
  · exact ⟨_, _, _, _, rfl, Same.refl _, fun j f h => by omega⟩
  · rintro i σ H1 _ ⟨_, _, _, _, _, s1, _⟩
    exact SqL.of (s1 _ _ B.lst)
  · rintro i v σ H1 hi ⟨t1, t2, t3, t4, rfl, s1, inv⟩
    obtain ⟨p, f, rfl, ep, ef, hf, ok⟩ := (B.same s1).elt hi
    have fm := List.mem_of_getElem? ef
    walk_at "wh"
    refine range_rd (by decide) (by decide) (by omega) (by omega) ?_
    rw [show ((a : Int) + 1 - 0).toNat = a + 1 by omega]
    refine loop_range (fun x σ H2 => ∃ t2 t3 t4 : Option V, σ = [some (.ref b), some (.int a), some (.int c), some (.ref l), some (.ref p), t2, t3, t4] ∧ Same H1 H2 ∧ ∀ x' y', x' < x → y' ≤ c → Pris f x' y') ?_ ?_ ?_
    · exact ⟨_, _, _, rfl, Same.refl _, fun x' y' h => by omega⟩
    · rintro x σ H2 hx ⟨u2, u3, u4, rfl, s2, inv2⟩
      have hx : x < a + 1 := hx
      walk_at "wh"
      refine range_rd (by decide) (by decide) (by omega) (by omega) ?_
      rw [show ((c : Int) + 1 - 0).toNat = c + 1 by omega]
      refine loop_range (fun y σ H3 => ∃ t3 t4 : Option V, σ = [some (.ref b), some (.int a), some (.int c), some (.ref l), some (.ref p), some (.int (0 + x)), t3, t4] ∧ Same H1 H3 ∧ ∀ y', y' < y → Pris f x y') ?_ ?_ ?_
      · exact ⟨_, _, rfl, s2, fun y' h => by omega⟩
      · rintro y σ H3 hy ⟨u3, u4, rfl, s3, inv3⟩
        have hy : y < c + 1 := hy
        have hf3 := hf.same s3
        have s03 := s1.trans s3
        have fin : ∀ {H4 : Hp}, Same H H4 → ¬ Pris f x y → Q (.bl false) H4 := fun s4 np => by
          have := q _ s4
          rwa [riseA_F fm (fun z => np (rise_iff.mp z x y (by omega) (by omega)))] at this
        have go : Pris f x y → ∀ y', y' < y + 1 → Pris f x y' := fun h y' hy' => by
          by_cases e : y' = y
          · subst e; exact h
          · exact inv3 y' (by omega)
        walk_at "wh"
        rw [show (0 : Int) + (x : Int) = ((x : Nat) : Int) by omega, show (0 : Int) + (y : Int) = ((y : Nat) : Int) by omega]
        refine paid_rd hf3 (show x ≤ a by omega) (show y ≤ c by omega) (fun H4 s4 => ?_)
        have s34 := s3.trans s4
        have second : (0 < x → f.won (x - 1) y ≤ f.won x y) → ∀ {H5 : Hp}, Same H1 H5 → True := fun _ _ _ => trivial
        walk_at "wh"
        refine br_dec (fun g1 => ?_) (fun g1 => ?_)
        · walk_at "wh"
          rw [show (x : Int) - 1 = ((x - 1 : Nat) : Int) by omega]
          refine paid_rd (hf.same s34) (show x - 1 ≤ a by omega) (show y ≤ c by omega) (fun H5 s5 => ?_)
          have s35 := s34.trans s5
          walk_at "wh"
          refine br_dec (fun g2 => ?_) (fun g2 => ?_)
          · walk_at "wh"
            refine br_T ?_
            walk_at "wh"
            exact fin (s1.trans s35) (fun z => by have := z.1 (by omega); omega)
          · walk_at "wh"
            refine br_dec (fun g3 => ?_) (fun g3 => ?_)
            · walk_at "wh"
              rw [show (y : Int) - 1 = ((y - 1 : Nat) : Int) by omega]
              refine paid_rd (hf.same s35) (show x ≤ a by omega) (show y - 1 ≤ c by omega) (fun H6 s6 => ?_)
              have s36 := s35.trans s6
              walk_at "wh"
              refine br_dec (fun g4 => ?_) (fun g4 => ?_)
              · walk_at "wh"
                exact fin (s1.trans s36) (fun z => by have := z.2 (by omega); omega)
              · walk_at "wh"
                exact ⟨_, _, rfl, s36, go ⟨fun _ => by omega, fun _ => by omega⟩⟩
            · walk_at "wh"
              refine br_F ?_
              walk_at "wh"
              exact ⟨_, _, rfl, s35, go ⟨fun _ => by omega, fun z => by omega⟩⟩
        · walk_at "wh"
          refine br_F ?_
          walk_at "wh"
          refine br_dec (fun g3 => ?_) (fun g3 => ?_)
          · walk_at "wh"
            rw [show (y : Int) - 1 = ((y - 1 : Nat) : Int) by omega]
            refine paid_rd (hf.same s34) (show x ≤ a by omega) (show y - 1 ≤ c by omega) (fun H6 s6 => ?_)
            have s36 := s34.trans s6
            walk_at "wh"
            refine br_dec (fun g4 => ?_) (fun g4 => ?_)
            · walk_at "wh"
              exact fin (s1.trans s36) (fun z => by have := z.2 (by omega); omega)
            · walk_at "wh"
              exact ⟨_, _, rfl, s36, go ⟨fun z => by omega, fun _ => by omega⟩⟩
          · walk_at "wh"
            refine br_F ?_
            walk_at "wh"
            exact ⟨_, _, rfl, s34, go ⟨fun z => by omega, fun z => by omega⟩⟩
      · rintro σ H3 ⟨u3, u4, rfl, s3, inv3⟩
        refine ⟨_, _, _, rfl, s3, fun x' y' h1 h2 => ?_⟩
        by_cases e : x' = x
        · subst e; exact inv3 y' (by omega)
        · exact inv2 x' y' (by omega) h2
    · rintro σ H2 ⟨u2, u3, u4, rfl, s2, inv2⟩
      refine ⟨_, _, _, _, rfl, s1.trans s2, fun j g hj eg => ?_⟩
      by_cases e : j = i
      · subst e
        rw [ef] at eg
        cases eg
        exact rise_iff.mpr fun x y hx hy => inv2 x y (by omega) hy
      · exact inv j g (by omega) eg
  · rintro σ H1 ⟨t1, t2, t3, t4, rfl, s1, inv⟩
    walk_at "wh"
    have := q _ s1
    rw [riseA_T (fun f hf => by
      obtain ⟨j, ej⟩ := List.getElem?_of_mem hf
      exact inv j f (by rw [List.length_map, bl]; exact (List.getElem?_eq_some_iff.mp ej).1) ej)] at this
    exact this
-- @@split
/-! ### a copy all the way down -/
def FlsAt (H : Hp) (l : Addr) (ps : List Addr) (a c : Nat) (fs : List Fd) : Prop := H l = some (.lst (ps.map V.ref)) ∧ ps.length = fs.length ∧ ∀ (i : Nat) p f, ps[i]? = some p → fs[i]? = some f → FdAt H p a c f
theorem FlsAt.same {H H' : Hp} {l : Addr} {ps : List Addr} {a c : Nat} {fs : List Fd} (B : FlsAt H l ps a c fs) (s : Same H H') : FlsAt H' l ps a c fs := ⟨s _ _ B.1, B.2.1, fun i p f e1 e2 => (B.2.2 i p f e1 e2).same s⟩
def sp_deepN : Nat → Sp
  | 0 => fun _ _ _ _ => False
  | n + 1 => fun vs H Q _ =>
    (∃ z : Int, vs = [.int z] ∧ Q (.int z) H) ∨ (∃ x : Str, vs = [.str x] ∧ Q (.str x) H) ∨
    (1 ≤ n ∧ ∃ (p : Addr) (ns : List Int), vs = [.ref p] ∧ H p = some (.lst (ns.map V.int)) ∧ ns.length ≤ 100 ∧ ∀ q H', H q = none → Same H H' → H' q = some (.lst (ns.map V.int)) → Q (.ref q) H') ∨
    (2 ≤ n ∧ ∃ (p : Addr) (ps : List Addr) (m h : Nat) (g : Nat → Nat → Int), vs = [.ref p] ∧ GridAt H p ps m h g ∧ m ≤ 100 ∧ h ≤ 100 ∧ ∀ q qs H', FreshL H H' q qs m (fun i => .lst (rowV h (g i))) → Q (.ref q) H') ∨
    (3 ≤ n ∧ ∃ (p : Addr) (a c : Nat) (f : Fd), vs = [.ref p] ∧ FdAt H p a c f ∧ a ≤ 10 ∧ c ≤ 10 ∧ ∀ q H', Same H H' → FdAt (nw H H') q a c f → Q (.ref q) H') ∨
    (4 ≤ n ∧ ∃ (l : Addr) (ps : List Addr) (a c : Nat) (fs : List Fd), vs = [.ref l] ∧ FlsAt H l ps a c fs ∧ a ≤ 10 ∧ c ≤ 10 ∧ fs.length ≤ 100 ∧ ∀ l' qs H', Same H H' → FlsAt (nw H H') l' qs a c fs → Q (.ref l') H') ∨
    (5 ≤ n ∧ ∃ (b l : Addr) (ps : List Addr) (a c : Nat) (fs : List Fd), vs = [.ref b] ∧ H b = some (.tup [.int a, .int c, .ref l]) ∧ FlsAt H l ps a c fs ∧ a ≤ 10 ∧ c ≤ 10 ∧ fs.length ≤ 100 ∧ ∀ b' l' qs H', Same H H' → nw H H' b' = some (.tup [.int a, .int c, .ref l']) → FlsAt (nw H H') l' qs a c fs → Q (.ref b') H')
@[irreducible] def sp__law_deep : Sp := sp_deepN 6
theorem deepG_rd {H : Hp} {p : Addr} {ps : List Addr} {m h : Nat} {g : Nat → Nat → Int} {Q : VK} {E : XK} (G : GridAt H p ps m h g) (h1 : m ≤ 100) (h2 : h ≤ 100) (q : ∀ q qs H', FreshL H H' q qs m (fun i => .lst (rowV h (g i))) → Q (.ref q) H') : sp__law_deep [.ref p] H Q E := by
  unfold sp__law_deep; exact .inr (.inr (.inr (.inl ⟨by decide, p, ps, m, h, g, rfl, G, h1, h2, q⟩)))
theorem deepB_rd {H : Hp} {b l : Addr} {ps : List Addr} {a c : Nat} {fs : List Fd} {Q : VK} {E : XK} (hb : H b = some (.tup [.int a, .int c, .ref l])) (B : FlsAt H l ps a c fs) (h1 : a ≤ 10) (h2 : c ≤ 10) (h3 : fs.length ≤ 100) (q : ∀ b' l' qs H', Same H H' → nw H H' b' = some (.tup [.int a, .int c, .ref l']) → FlsAt (nw H H') l' qs a c fs → Q (.ref b') H') : sp__law_deep [.ref b] H Q E := by
  unfold sp__law_deep; exact .inr (.inr (.inr (.inr (.inr (.inr ⟨by decide, b, l, ps, a, c, fs, rfl, hb, B, h1, h2, h3, q⟩)))))
theorem step_in {H1 H H5 H6 : Hp} {acc : Addr} {ys : List V} (s : Same H1 H) (ha : H acc = some (.lst ys)) (c : Chg acc H5 H6) : Same (nw H H5) (rm acc (nw H1 H6)) := fun b o h => by
  have hb := nw_of h
  have n : b ≠ acc := fun z => by rw [z, ha] at hb; cases hb.1
  exact rm_at n (nw_at (s.free hb.1) (c _ _ n hb.2))
theorem rowV_ints_get {ns : List Int} {i : Nat} {v : V} (e : (ns.map V.int)[i]? = some v) : ∃ z, v = .int z ∧ ns[i]? = some z := by
  rw [List.getElem?_map] at e
  obtain ⟨z, ez, rfl⟩ := Option.map_eq_some_iff.mp e
  exact ⟨z, rfl, ez⟩
theorem ints_range (ns : List Int) : (List.range ns.length).map (fun i => V.int (ns.getD i 0)) = ns.map V.int := by
  apply List.ext_getElem?
  intro i
  rw [List.getElem?_map, List.getElem?_map]
  by_cases h : i < ns.length
  · rw [List.getElem?_range h, List.getElem?_eq_getElem h]
    simp [h]
  · rw [List.getElem?_eq_none (by simp; omega), List.getElem?_eq_none (by omega)]
    rfl
theorem rowV_cast (h : Nat) (g : Nat → Int) : rowV h g = ((List.range h).map g).map V.int := rowV_ints h g
set_option maxHeartbeats 0 in
theorem ok__law_deep {f : Addr} {fd : FuncData} (F : Fun K "_law_deep" "_law_deep" s__law_deep f fd) (N : Nm mg) (hgR : mg "_law_deep" = some (.ref f)) (hkR : PySem.W.keepIn K (.ref f) = true) (hbR : Binds K fd ["_law_thing"] []) : FnOk P w K mg base CX0 7 f fd ["_law_thing"] sp__law_deep := by
  have key : ∀ n, FnOk P w K mg base CX0 (n + 1) f fd ["_law_thing"] (sp_deepN n) := by
    intro n
    induction n with
    | zero => exact F.ok sc__law_deep (fun vs H Q E h => h.elim) (fun cdv A outer s H vs Q E hr h => h.elim)
    | succ n ih =>
      have D__law_deep : Def P w K mg base CX0 (n + 1) "_law_deep" ["_law_thing"] (sp_deepN n) := ⟨f, fd, ih, hgR, hkR, hbR⟩
      refine F.ok sc__law_deep (fun vs H Q E h => by rcases h with ⟨_, rfl, _⟩ | ⟨_, rfl, _⟩ | ⟨_, _, _, rfl, _⟩ | ⟨_, _, _, _, _, _, rfl, _⟩ | ⟨_, _, _, _, _, rfl, _⟩ | ⟨_, _, _, _, _, _, rfl, _⟩ | ⟨_, _, _, _, _, _, _, rfl, _⟩ <;> rfl) (fun cdv A outer s H vs Q E hr h => ?_)
      refine ⟨_, (pss_cons (psIf (ptV (pB (cIsiK (K := K) rfl) N.isinstance_ bt_isinstance (pa_cons (pq 0) (pa_cons (pTy N.list_ bt_list) pa_nil)))) (pss_one (ps_ret (peComp (N := ["_law_part"]) (ks := [none]) (piSeqK (K := K) rfl (pq 0)) (fun cl C s3 H3 fp => (pg_name (i := 0) nb_6 rfl (by first | exact Or.inl rfl | exact Or.inr rfl))) (fun cl C s3 H3 fp => pts_nil) (fun cl C s3 H3 fp => (pD D__law_deep hr pass0 (pa_cons (pq 0) pa_nil) (hk := by omega))) (.skip .nil)))) pss_nil)
      (pss_cons (psIf (ptV (pB (cIsiK (K := K) rfl) N.isinstance_ bt_isinstance (pa_cons (pq 0) (pa_cons (pTy N.tuple_ bt_tuple) pa_nil)))) (pss_one (ps_ret (pT (cTupK (K := K) rfl) N.tuple_ bt_tuple (pa_cons (peComp (N := ["_law_part"]) (ks := [none]) (piSeqK (K := K) rfl (pq 0)) (fun cl C s3 H3 fp => (pg_name (i := 0) nb_6 rfl (by first | exact Or.inl rfl | exact Or.inr rfl))) (fun cl C s3 H3 fp => pts_nil) (fun cl C s3 H3 fp => (pD D__law_deep hr pass0 (pa_cons (pq 0) pa_nil) (hk := by omega))) (.skip .nil)) pa_nil)))) pss_nil)
      (pss_one (ps_ret (pq 0))))), ?_⟩
      rcases h with ⟨z, rfl, q⟩ | ⟨x, rfl, q⟩ | ⟨hn, p, ns, rfl, hp, hl, q⟩ | ⟨hn, p, ps, m, h, g, rfl, G, h1, h2, q⟩ | ⟨hn, p, a, c, f, rfl, F, h1, h2, q⟩ | ⟨hn, l, ps, a, c, fs, rfl, B, h1, h2, h3, q⟩ | ⟨hn, b, l, ps, a, c, fs, rfl, hb, B, h1, h2, h3, q⟩
      · walk_at "wh"
        refine isiI_rd ?_
        walk_at "wh"
        refine br_F ?_
        walk_at "wh"
        refine isiI_rd ?_
        walk_at "wh"
        refine br_F ?_
        walk_at "wh"
        exact q
      · walk_at "wh"
        refine isiS_rd ?_
        walk_at "wh"
        refine br_F ?_
        walk_at "wh"
        refine isiS_rd ?_
        walk_at "wh"
        refine br_F ?_
        walk_at "wh"
        exact q
      · obtain ⟨n', rfl⟩ : ∃ n', n = n' + 1 := ⟨n - 1, by omega⟩
        walk_at "wh"
        refine isiL_rd hp ?_
        walk_at "wh"
        refine br_T ?_
        walk_at "wh"
        refine iterL_rd hp ?_
        refine comp_I (Wk.list (SqL.of hp)) (by rw [List.length_map, sizeLine_eq]; omega) (fun i => .int (ns.getD i 0)) (fun _ => true) (fun j σ => ∃ t : Option V, σ = [t]) ⟨none, rfl⟩ ?_ ?_
        · rintro j v σ H1 R S hj s1 hx ⟨t, rfl⟩ k _
          obtain ⟨z, rfl, ez⟩ := rowV_ints_get hx
          have eg : ns.getD j 0 = z := by rw [List.getD_eq_getElem?_getD, ez]; rfl
          walk_at "wh"
          refine br_T ?_
          walk_at "wh"
          refine .inl ⟨z, rfl, ?_⟩
          walk_at "wh"
          rw [eg] at k
          exact k rfl _ _ (Same.refl _) ⟨_, rfl⟩
        intro acc H1 f1 s1 h1'
        rw [filter_T, List.length_map, ints_range] at h1'
        walk_at "wh"
        exact q _ _ f1 s1 h1'
      · obtain ⟨n', rfl⟩ : ∃ n', n = n' + 1 := ⟨n - 1, by omega⟩
        have gl := G.len
        walk_at "wh"
        refine isiL_rd G.out ?_
        walk_at "wh"
        refine br_T ?_
        walk_at "wh"
        refine iterL_rd G.out ?_
        refine comp_F (n := (ps.map V.ref).length) (Wk.list (SqL.of G.out)) (by rw [List.length_map, sizeLine_eq]; omega) (fun i => .lst (rowV h (g i))) (fun j σ => ∃ t : Option V, σ = [t]) ⟨none, rfl⟩ ?_ ?_
        · rintro j v σ H1 R S hj s1 hx ⟨t, rfl⟩ k
          rw [List.getElem?_map] at hx
          obtain ⟨p1, e1, rfl⟩ := Option.map_eq_some_iff.mp hx
          have hp1 := s1 _ _ (G.row j p1 e1)
          rw [rowV_cast] at hp1 k
          walk_at "wh"
          refine br_T ?_
          walk_at "wh"
          refine .inr (.inr (.inl ⟨by omega, p1, _, rfl, hp1, by rw [List.length_map, List.length_range]; exact h2, fun q2 H2 f2 s2 h2' => ?_⟩))
          walk_at "wh"
          exact k _ _ _ f2 s2 h2' ⟨_, rfl⟩
        · intro acc qs H1 F1
          rw [List.length_map, gl] at F1
          walk_at "wh"
          exact q _ _ _ F1
      · obtain ⟨n', rfl⟩ : ∃ n', n = n' + 1 := ⟨n - 1, by omega⟩
        cases f with
        | more wt t =>
          have F' : H p = some (.tup [.str "more", .int wt, .int t]) := F
          walk_at "wh"
          refine isiT_rd F' ?_
          walk_at "wh"
          refine br_F ?_
          walk_at "wh"
          refine isiT_rd F' ?_
          walk_at "wh"
          refine br_T ?_
          walk_at "wh"
          refine iterT_rd F' ?_
          refine comp_I (Wk.tup F') (by rw [sizeLine_eq]; simp only [List.length_cons, List.length_nil]; decide) (fun i => [V.str "more", V.int wt, V.int t].getD i .non) (fun _ => true) (fun j σ => ∃ t : Option V, σ = [t]) ⟨none, rfl⟩ ?_ ?_
          · rintro j v σ H1 R S hj s1 hx ⟨t', rfl⟩ k _
            match j with
            | 0 =>
              cases hx
              walk_at "wh"
              refine br_T ?_
              walk_at "wh"
              refine .inr (.inl ⟨_, rfl, ?_⟩)
              walk_at "wh"
              exact k rfl _ _ (Same.refl _) ⟨_, rfl⟩
            | 1 =>
              cases hx
              walk_at "wh"
              refine br_T ?_
              walk_at "wh"
              refine .inl ⟨_, rfl, ?_⟩
              walk_at "wh"
              exact k rfl _ _ (Same.refl _) ⟨_, rfl⟩
            | 2 =>
              cases hx
              walk_at "wh"
              refine br_T ?_
              walk_at "wh"
              refine .inl ⟨_, rfl, ?_⟩
              walk_at "wh"
              exact k rfl _ _ (Same.refl _) ⟨_, rfl⟩
            | j + 3 => simp at hx
          intro acc H1 f1 s1 h1'
          have h1' : H1 acc = some (.lst [.str "more", .int wt, .int t]) := h1'
          walk_at "wh"
          refine tupL_rd (SqL.of h1') (fun l2 H2 f2 s2 h2' => ?_)
          walk_at "wh"
          exact q l2 H2 (s1.trans s2) (nw_at (s1.free f2) h2')
        | lead wt l =>
          have F' : H p = some (.tup [.str "lead", .int wt, .int l]) := F
          walk_at "wh"
          refine isiT_rd F' ?_
          walk_at "wh"
          refine br_F ?_
          walk_at "wh"
          refine isiT_rd F' ?_
          walk_at "wh"
          refine br_T ?_
          walk_at "wh"
          refine iterT_rd F' ?_
          refine comp_I (Wk.tup F') (by rw [sizeLine_eq]; simp only [List.length_cons, List.length_nil]; decide) (fun i => [V.str "lead", V.int wt, V.int l].getD i .non) (fun _ => true) (fun j σ => ∃ t : Option V, σ = [t]) ⟨none, rfl⟩ ?_ ?_
          · rintro j v σ H1 R S hj s1 hx ⟨t', rfl⟩ k _
            match j with
            | 0 =>
              cases hx
              walk_at "wh"
              refine br_T ?_
              walk_at "wh"
              refine .inr (.inl ⟨_, rfl, ?_⟩)
              walk_at "wh"
              exact k rfl _ _ (Same.refl _) ⟨_, rfl⟩
            | 1 =>
              cases hx
              walk_at "wh"
              refine br_T ?_
              walk_at "wh"
              refine .inl ⟨_, rfl, ?_⟩
              walk_at "wh"
              exact k rfl _ _ (Same.refl _) ⟨_, rfl⟩
            | 2 =>
              cases hx
              walk_at "wh"
              refine br_T ?_
              walk_at "wh"
              refine .inl ⟨_, rfl, ?_⟩
              walk_at "wh"
              exact k rfl _ _ (Same.refl _) ⟨_, rfl⟩
            | j + 3 => simp at hx
          intro acc H1 f1 s1 h1'
          have h1' : H1 acc = some (.lst [.str "lead", .int wt, .int l]) := h1'
          walk_at "wh"
          refine tupL_rd (SqL.of h1') (fun l2 H2 f2 s2 h2' => ?_)
          walk_at "wh"
          exact q l2 H2 (s1.trans s2) (nw_at (s1.free f2) h2')
        | tab g =>
          obtain ⟨r, ps, F', G⟩ := F
          walk_at "wh"
          refine isiT_rd F' ?_
          walk_at "wh"
          refine br_F ?_
          walk_at "wh"
          refine isiT_rd F' ?_
          walk_at "wh"
          refine br_T ?_
          walk_at "wh"
          refine iterT_rd F' ?_
          refine comp_A (Wk.tup F') (by rw [sizeLine_eq]; simp only [List.length_cons, List.length_nil]; decide) (fun acc i ys σ H1 => ∃ t : Option V, σ = [t] ∧ (i = 0 → ys = []) ∧ (i = 1 → ys = [.str "table"]) ∧ (i = 2 → ∃ q qs, ys = [.str "table", .ref q] ∧ GridAt (rm acc (nw H H1)) q qs (a + 1) (c + 1) g)) ?_ ?_ ?_ ?_
          · intro acc H1 f1 s1 h1'
            exact ⟨none, rfl, fun _ => rfl, fun z => by omega, fun z => by omega⟩
          · rintro acc i ys σ H1 H2 s ⟨t, r1, r2, r3, r4⟩
            exact ⟨t, r1, r2, r3, fun z => by obtain ⟨q, qs, e1, e2⟩ := r4 z; exact ⟨q, qs, e1, e2.same (Same.rm (nw_up s))⟩⟩
          · rintro acc i v ys σ H1 R S hi facc s1 hacc hx ⟨t, rfl, r2, r3, r4⟩ kR _
            match i with
            | 0 =>
              cases hx
              have := r2 rfl
              subst this
              walk_at "wh"
              refine br_T ?_
              walk_at "wh"
              refine .inr (.inl ⟨_, rfl, ?_⟩)
              walk_at "wh"
              exact kR _ _ _ (Same.refl _) (fun H6 c6 => ⟨_, rfl, fun z => by omega, fun _ => rfl, fun z => by omega⟩)
            | 1 =>
              cases hx
              have := r3 rfl
              subst this
              walk_at "wh"
              refine br_T ?_
              walk_at "wh"
              refine .inr (.inr (.inr (.inl ⟨by omega, r, ps, a + 1, c + 1, g, rfl, G.same s1, by omega, by omega, fun q2 qs2 H2 F2 => ?_⟩)))
              walk_at "wh"
              refine kR _ _ _ F2.same (fun H6 c6 => ⟨_, rfl, fun z => by omega, fun z => by omega, fun _ => ⟨q2, qs2, rfl, ?_, F2.len, fun j p' e => ?_⟩⟩)
              · have n1 : q2 ≠ acc := Ne.symm (ne_of_none hacc F2.facc)
                exact rm_at n1 (nw_at (s1.free F2.facc) (c6 _ _ n1 F2.out))
              · have rr := F2.row j p' e
                have n1 : p' ≠ acc := Ne.symm (ne_of_none hacc rr.1)
                exact rm_at n1 (nw_at (s1.free rr.1) (c6 _ _ n1 rr.2))
            | i + 2 => simp at hx
          · rintro acc ys σ H1 facc s1 hacc ⟨t, rfl, _, _, r4⟩
            obtain ⟨q2, qs2, rfl, G2⟩ := r4 rfl
            walk_at "wh"
            refine tupL_rd (SqL.of hacc) (fun l2 H2 f2 s2 h2' => ?_)
            walk_at "wh"
            exact q l2 H2 (s1.trans s2) ⟨q2, qs2, nw_at (s1.free f2) h2', G2.same (fun b o e => nw_up s2 _ _ (rm_of e).2)⟩
      · obtain ⟨n', rfl⟩ : ∃ n', n = n' + 1 := ⟨n - 1, by omega⟩
        obtain ⟨B1, B2, B3⟩ := B
        walk_at "wh"
        refine isiL_rd B1 ?_
        walk_at "wh"
        refine br_T ?_
        walk_at "wh"
        refine iterL_rd B1 ?_
        refine comp_A (Wk.list (SqL.of B1)) (by rw [List.length_map, sizeLine_eq]; omega) (fun acc i ys σ H2 => ∃ (t : Option V) (qs : List Addr), σ = [t] ∧ ys = qs.map V.ref ∧ qs.length = i ∧ ∀ (k : Nat) p f, qs[k]? = some p → fs[k]? = some f → FdAt (rm acc (nw H H2)) p a c f) ?_ ?_ ?_ ?_
        · intro acc H2 f2 s2 h2'
          exact ⟨none, [], rfl, rfl, rfl, fun k p f e => by simp at e⟩
        · rintro acc i ys σ H2 H3 s ⟨t, qs, r1, r2, r3, r4⟩
          exact ⟨t, qs, r1, r2, r3, fun k p f e1 e2 => (r4 k p f e1 e2).same (Same.rm (nw_up s))⟩
        · rintro acc i v ys σ H2 R S hi facc s2 hacc hx ⟨t, qs, rfl, rfl, ql, pr⟩ kR _
          rw [List.getElem?_map] at hx
          obtain ⟨p, ep, rfl⟩ := Option.map_eq_some_iff.mp hx
          obtain ⟨f, ef⟩ : ∃ f, fs[i]? = some f := ⟨_, List.getElem?_eq_getElem (by have := (List.getElem?_eq_some_iff.mp ep).1; omega)⟩
          walk_at "wh"
          refine br_T ?_
          walk_at "wh"
          refine .inr (.inr (.inr (.inr (.inl ⟨by omega, p, a, c, f, rfl, (B3 i p f ep ef).same s2, h1, h2, fun p3 H3 s3 h3' => ?_⟩))))
          walk_at "wh"
          refine kR _ _ _ s3 (fun H6 c6 => ⟨_, qs ++ [p3], rfl, by rw [List.map_append]; rfl, by rw [List.length_append, ql]; rfl, fun j p' f' g1 g2 => ?_⟩)
          by_cases hj : j < qs.length
          · rw [List.getElem?_append_left hj] at g1
            refine (pr j p' f' g1 g2).same (fun b o e => ?_)
            have e1 := rm_of e
            have e2 := nw_of e1.2
            exact rm_at e1.1 (nw_at e2.1 (c6 _ _ e1.1 (s3 _ _ e2.2)))
          · rw [List.getElem?_append_right (by omega)] at g1
            have j0 : j - qs.length = 0 := by
              have := (List.getElem?_eq_some_iff.mp g1).1
              simp at this; omega
            rw [j0] at g1
            cases g1
            have : j = i := by omega
            subst this
            have : f = f' := Option.some.inj (ef.symm.trans g2)
            subst this
            exact h3'.same (step_in s2 hacc c6)
        · rintro acc ys σ H2 facc s2 hacc ⟨t, qs, rfl, rfl, ql, pr⟩
          rw [List.length_map] at ql
          walk_at "wh"
          exact q acc qs H2 s2 ⟨nw_at facc hacc, by omega, fun i p f e1 e2 => (pr i p f e1 e2).same (fun b o e => (rm_of e).2)⟩
      · obtain ⟨n', rfl⟩ : ∃ n', n = n' + 1 := ⟨n - 1, by omega⟩
        walk_at "wh"
        refine isiT_rd hb ?_
        walk_at "wh"
        refine br_F ?_
        walk_at "wh"
        refine isiT_rd hb ?_
        walk_at "wh"
        refine br_T ?_
        walk_at "wh"
        refine iterT_rd hb ?_
        refine comp_A (Wk.tup hb) (by rw [sizeLine_eq]; simp only [List.length_cons, List.length_nil]; decide) (fun acc i ys σ H1 => ∃ t : Option V, σ = [t] ∧ (i = 0 → ys = []) ∧ (i = 1 → ys = [.int a]) ∧ (i = 2 → ys = [.int a, .int c]) ∧ (i = 3 → ∃ l' qs, ys = [.int a, .int c, .ref l'] ∧ FlsAt (rm acc (nw H H1)) l' qs a c fs)) ?_ ?_ ?_ ?_
        · intro acc H1 f1 s1 h1'
          exact ⟨none, rfl, fun _ => rfl, fun z => by omega, fun z => by omega, fun z => by omega⟩
        · rintro acc i ys σ H1 H2 s ⟨t, r1, r2, r3, r4, r5⟩
          exact ⟨t, r1, r2, r3, r4, fun z => by obtain ⟨q, qs, e1, e2⟩ := r5 z; exact ⟨q, qs, e1, e2.same (Same.rm (nw_up s))⟩⟩
        · rintro acc i v ys σ H1 R S hi facc s1 hacc hx ⟨t, rfl, r2, r3, r4, r5⟩ kR _
          match i with
          | 0 =>
            cases hx
            have := r2 rfl
            subst this
            walk_at "wh"
            refine br_T ?_
            walk_at "wh"
            refine .inl ⟨_, rfl, ?_⟩
            walk_at "wh"
            exact kR _ _ _ (Same.refl _) (fun H6 c6 => ⟨_, rfl, fun z => by omega, fun _ => rfl, fun z => by omega, fun z => by omega⟩)
          | 1 =>
            cases hx
            have := r3 rfl
            subst this
            walk_at "wh"
            refine br_T ?_
            walk_at "wh"
            refine .inl ⟨_, rfl, ?_⟩
            walk_at "wh"
            exact kR _ _ _ (Same.refl _) (fun H6 c6 => ⟨_, rfl, fun z => by omega, fun z => by omega, fun _ => rfl, fun z => by omega⟩)
          | 2 =>
            cases hx
            have := r4 rfl
            subst this
            walk_at "wh"
            refine br_T ?_
            walk_at "wh"
            refine .inr (.inr (.inr (.inr (.inr (.inl ⟨by omega, l, ps, a, c, fs, rfl, B.same s1, h1, h2, h3, fun l3 qs3 H3 s3 B3 => ?_⟩)))))
            walk_at "wh"
            refine kR _ _ _ s3 (fun H6 c6 => ⟨_, rfl, fun z => by omega, fun z => by omega, fun z => by omega, fun _ => ⟨l3, qs3, rfl, B3.same (step_in s1 hacc c6)⟩⟩)
          | i + 3 => simp at hx
        · rintro acc ys σ H1 facc s1 hacc ⟨t, rfl, _, _, _, r5⟩
          obtain ⟨l3, qs3, rfl, B3⟩ := r5 rfl
          walk_at "wh"
          refine tupL_rd (SqL.of hacc) (fun l2 H2 f2 s2 h2' => ?_)
          walk_at "wh"
          exact q l2 l3 qs3 H2 (s1.trans s2) (nw_at (s1.free f2) h2') (B3.same (fun b o e => nw_up s2 _ _ (rm_of e).2))
  unfold sp__law_deep
  exact key 6
-- @@split
@[irreducible] def sp__law_rising : Sp := fun vs H Q _ => ∃ (a : Addr) (b : Int) (n m : Nat), vs = [.ref a, .int n, .int m] ∧ LeftAt H a b ∧ b ≤ 90000 ∧ n ≤ 10 ∧ m ≤ 10 ∧ ∀ r qs g H', Chg a H H' → LeftAt H' a (b + 100) → GridAt (nw H H') r qs (n + 1) (m + 1) g → Q (.ref r) H'
theorem rising_rd {H : Hp} {a : Addr} {b : Int} {n m : Nat} {Q : VK} {E : XK} (hL : LeftAt H a b) (hb : b ≤ 90000) (h1 : n ≤ 10) (h2 : m ≤ 10) (q : ∀ r qs g H', Chg a H H' → LeftAt H' a (b + 100) → GridAt (nw H H') r qs (n + 1) (m + 1) g → Q (.ref r) H') : sp__law_rising [.ref a, .int n, .int m] H Q E := by unfold sp__law_rising; exact ⟨a, b, n, m, rfl, hL, hb, h1, h2, q⟩
set_option maxHeartbeats 0 in
theorem ok__law_rising {f : Addr} {fd : FuncData} (F : Fun K "_law_rising" "_law_rising" s__law_rising f fd) (N : Nm mg) (D__law_draw : Def P w K mg base CX0 2 "_law_draw" ["_law_left_here", "_law_base"] sp__law_draw) : FnOk P w K mg base CX0 3 f fd ["_law_left_here", "_law_first", "_law_second"] sp__law_rising := by
  refine F.ok sc__law_rising (fun vs H Q E h => by unfold sp__law_rising at h; obtain ⟨_, _, _, _, rfl, _⟩ := h; rfl) (fun cdv A outer s H vs Q E hr h => ?_)
  unfold sp__law_rising at h
  obtain ⟨a, b, n, m, rfl, hL, hb, h1, h2, q⟩ := h
  refine ⟨_, (pss_cons (psS (i := 3) sc__law_rising.nd (peComp (N := ["_law_side", "_law_left_here"]) (ks := [none, some 0]) (piRng1 N.range_ (pa_cons pe_int pa_nil)) (fun cl C s3 H3 fp => (pg_name (i := 0) nb_7 rfl (by first | exact Or.inl rfl | exact Or.inr rfl))) (fun cl C s3 H3 fp => pts_nil) (fun cl C s3 H3 fp => (peComp (N := ["_law_k", "_law_left_here"]) (ks := [none, some 1]) (piRng1 N.range_ (pa_cons pe_int pa_nil)) (fun cl C s3 H3 fp => (pg_name (i := 0) nb_8 rfl (by first | exact Or.inl rfl | exact Or.inr rfl))) (fun cl C s3 H3 fp => pts_nil) (fun cl C s3 H3 fp => (pD D__law_draw hr pass0 (pa_cons (pq 1) (pa_cons pe_int pa_nil)))) (.skip (.take rfl rfl (by first | exact Or.inl rfl | exact Or.inr rfl) .nil)))) (.skip (.take rfl rfl (by first | exact Or.inl rfl | exact Or.inr rfl) .nil))))
      (pss_cons (psS (i := 4) sc__law_rising.nd (peLst pa_nil))
      (pss_cons (psFor PassesOwn.never rfl (piRng1 N.range_ (pa_cons (pe_op oAdd (pq 1) pe_int) pa_nil)) (pg_name (i := 5) sc__law_rising.nd rfl (by first | exact Or.inl rfl | exact Or.inr rfl)) (pss_one (ps_expr (peM_append (pq 4) (pa_cons (peComp (N := ["_law_y", "_law_steps", "_law_x"]) (ks := [none, some 3, some 5]) (piRng1 N.range_ (pa_cons (pe_op oAdd (pq 2) pe_int) pa_nil)) (fun cl C s3 H3 fp => (pg_name (i := 0) nb_9 rfl (by first | exact Or.inl rfl | exact Or.inr rfl))) (fun cl C s3 H3 fp => pts_nil) (fun cl C s3 H3 fp => (pe_op oSub (pB (cSumK (K := K) rfl rfl) N.sum_ bt_sum (pa_cons (pe_slice (slK (K := K) rfl) (peIxK (K := K) rfl (pq 1) pe_int) po_none (poSome (pq 2))) pa_nil)) (pB (cSumK (K := K) rfl rfl) N.sum_ bt_sum (pa_cons (pe_slice (slK (K := K) rfl) (peIxK (K := K) rfl (pq 1) pe_int) po_none (poSome (pq 0))) pa_nil)))) (.skip (.take rfl rfl (by first | exact Or.inl rfl | exact Or.inr rfl) (.take rfl rfl (by first | exact Or.inl rfl | exact Or.inr rfl) .nil)))) pa_nil)))))
      (pss_one (ps_ret (pq 4)))))), ?_⟩
  walk_at "wh"
  refine range_rd (by decide) (by decide) (by decide) (by decide) ?_
  refine comp_rangeV (n := 2) (by rw [sizeLine_eq]; decide) (fun r H3 f3 s3 h3 => ?_)
  have nr : r ≠ a := hL.ne f3
  refine ⟨fun i ys σ H4 => ∃ (t : Option V) (qs : List Addr) (zs : List (List Int)), σ = [t, some (.ref a)] ∧ ys = qs.map V.ref ∧ LeftAt H4 a (b + 25 * i) ∧ Chg2 a r H H4 ∧ qs.length = i ∧ zs.length = i ∧ ∀ (k : Nat) q z, qs[k]? = some q → zs[k]? = some z → q ≠ r ∧ q ≠ a ∧ H4 q = some (.lst (z.map V.int)), ?_, ?_, ?_⟩
  · exact ⟨none, [], [], rfl, rfl, (hL.same s3).up (by omega), s3.to2, rfl, rfl, fun k q z e => by simp at e⟩
  · rintro i mm ys σ H4 hi hm hl h4 ⟨t, qs, zs, rfl, rfl, L4, c4, ql, zl, pr⟩
    have hi : i < 2 := hi
    walk_at "wh"
    refine br_T ?_
    walk_at "wh"
    refine range_rd (by decide) (by decide) (by decide) (by decide) ?_
    refine comp_rangeV (n := 21) (by rw [sizeLine_eq]; decide) (fun acc H5 f5 s5 h5 => ?_)
    have na : acc ≠ a := L4.ne f5
    have nra : r ≠ acc := ne_of_none h4 f5
    refine ⟨fun j ys σ H6 => ∃ (t : Option V) (z : List Int), σ = [t, some (.ref a)] ∧ ys = z.map V.int ∧ z.length = j ∧ LeftAt H6 a (b + 25 * i + j) ∧ Chg2 a acc H4 H6, ?_, ?_, ?_⟩
    · exact ⟨none, [], rfl, rfl, rfl, (L4.same s5).up (by omega), s5.to2⟩
    · rintro j m' ys σ H6 hj hm' hl' h6 ⟨t, z, rfl, rfl, lz, L6, c6⟩
      have hj : j < 21 := hj
      walk_at "wh"
      refine br_T ?_
      walk_at "wh"
      refine draw_rd L6 (by omega) (by omega) (by omega) (fun d H7 d0 d1 c7 L7 => ?_)
      walk_at "wh"
      refine cputV_rd hj hm' hl' (c7 _ _ na h6) (fun H8 c8 h8 => ?_)
      exact ⟨_, z ++ [_], rfl, by rw [List.map_append]; rfl, by rw [List.length_append, lz]; rfl, (L7.chg c8 (Ne.symm na)).up (by omega), (c6.trans c7.toL).trans c8.toR⟩
    · rintro ys σ H6 h6 ⟨t, z, rfl, rfl, lz, L6, c6⟩
      walk_at "wh"
      refine cputV_rd hi hm hl (c6 _ _ nr nra h4) (fun H7 c7 h7 => ?_)
      refine ⟨_, qs ++ [acc], zs ++ [z], rfl, by rw [List.map_append]; rfl, (L6.chg c7 (Ne.symm nr)).up (by omega), fun x o z1 z2 e => ?_, by rw [List.length_append, ql]; rfl, by rw [List.length_append, zl]; rfl, fun k q z' g1 g2 => ?_⟩
      · have e4 := c4 _ _ z1 z2 e
        exact c7 _ _ z2 (c6 _ _ z1 (ne_of_none e4 f5) e4)
      by_cases hk : k < qs.length
      · rw [List.getElem?_append_left hk] at g1
        rw [List.getElem?_append_left (by omega)] at g2
        obtain ⟨y2, y3, y4⟩ := pr k q z' g1 g2
        exact ⟨y2, y3, c7 _ _ y2 (c6 _ _ y3 (ne_of_none y4 f5) y4)⟩
      · rw [List.getElem?_append_right (by omega)] at g1 g2
        have k0 : k - qs.length = 0 := by
          have := (List.getElem?_eq_some_iff.mp g1).1
          simp at this; omega
        rw [k0] at g1
        rw [show k - zs.length = 0 by omega] at g2
        cases g1
        cases g2
        exact ⟨Ne.symm nra, na, c7 _ _ (Ne.symm nra) h6⟩
  · rintro ys σ H4 h4 ⟨t, qs, zs, rfl, rfl, L4, c4, ql, zl, pr⟩
    have c04 : Chg a H H4 := fun x o z1 e => c4 _ _ z1 (ne_of_none e f3) e
    obtain ⟨q0, e0⟩ : ∃ q0, qs[0]? = some q0 := ⟨_, List.getElem?_eq_getElem (by omega)⟩
    obtain ⟨q1, e1⟩ : ∃ q0, qs[1]? = some q0 := ⟨_, List.getElem?_eq_getElem (by omega)⟩
    obtain ⟨A1, ea⟩ : ∃ q0, zs[0]? = some q0 := ⟨_, List.getElem?_eq_getElem (by omega)⟩
    obtain ⟨A2, eb⟩ : ∃ q0, zs[1]? = some q0 := ⟨_, List.getElem?_eq_getElem (by omega)⟩
    have hq0 := (pr 0 q0 A1 e0 ea).2.2
    have hq1 := (pr 1 q1 A2 e1 eb).2.2
    have i0 : atI (qs.map V.ref) 0 = some (.ref q0) := atI_nat (j := 0) (by rw [List.getElem?_map, e0]; rfl)
    have i1 : atI (qs.map V.ref) 1 = some (.ref q1) := atI_nat (j := 1) (by rw [List.getElem?_map, e1]; rfl)
    walk_at "wh"
    refine newL_rd (fun w5 H5 f5 s5 h5 => ?_)
    have nw5 : w5 ≠ a := L4.ne f5
    have fw : H w5 = none := Chg.free' c04 f5 nw5
    walk_at "wh"
    refine range_rd (by decide) (by decide) (by omega) (by omega) ?_
    rw [show ((n : Int) + 1 - 0).toNat = n + 1 by omega]
    refine loop_range (fun i σ H6 => ∃ (x : Option V) (ps : List Addr), σ = [some (.ref a), some (.int n), some (.int m), some (.ref r), some (.ref w5), x] ∧ Same H4 H6 ∧ H6 w5 = some (.lst (ps.map V.ref)) ∧ ps.length = i ∧ ∀ (k : Nat) p, ps[k]? = some p → H4 p = none ∧ p ≠ w5 ∧ H6 p = some (.lst (rowV (m + 1) fun y => (A1.take k).sum - (A2.take y).sum))) ?_ ?_ ?_
    · exact ⟨_, [], rfl, s5, h5, rfl, fun k p e => by simp at e⟩
    · rintro i σ H6 hi ⟨x0, ps, rfl, s6, h6, pl', pr6⟩
      have hi : i < n + 1 := hi
      walk_at "wh"
      refine lst_is h6 ?_
      walk_at "wh"
      refine range_rd (by decide) (by decide) (by omega) (by omega) ?_
      rw [show ((m : Int) + 1 - 0).toNat = m + 1 by omega]
      refine comp_I (n := m + 1) Wk.range (by rw [sizeLine_eq]; omega) (fun y => .int ((A1.take i).sum - (A2.take y).sum)) (fun _ => true) (fun j σ => ∃ t : Option V, σ = [t, some (.ref r), some (.int (0 + i))]) ⟨none, rfl⟩ ?_ ?_
      · rintro j v σ H7 R S hj s7 rfl ⟨t, rfl⟩ k _
        have s47 := s6.trans s7
        walk_at "wh"
        refine br_T ?_
        walk_at "wh"
        refine ixL_rd (v := .ref q0) (s47 _ _ h4) i0 ?_
        walk_at "wh"
        refine sl_rd (SqL.of (s47 _ _ hq0)) (fun u8 H8 f8 s8 h8 => ?_)
        rw [cut_takeV (by omega), show (0 + (i : Int)).toNat = i by omega, ← List.map_take] at h8
        walk_at "wh"
        refine sum_rd h8 ?_
        have s48 := s47.trans s8
        walk_at "wh"
        refine ixL_rd (v := .ref q1) (s48 _ _ h4) i1 ?_
        walk_at "wh"
        refine sl_rd (SqL.of (s48 _ _ hq1)) (fun u9 H9 f9 s9 h9 => ?_)
        rw [cut_takeV (by omega), show (0 + (j : Int)).toNat = j by omega, ← List.map_take] at h9
        walk_at "wh"
        refine sum_rd h9 ?_
        walk_at "wh"
        exact k rfl _ _ (s8.trans s9) ⟨_, rfl⟩
      intro acc H7 f7 s7 h7
      rw [filter_T] at h7
      have nacc : acc ≠ w5 := Ne.symm (ne_of_none h6 f7)
      walk_at "wh"
      refine app_rd (s7 _ _ h6) (by rw [List.length_map, sizeLine_eq]; omega) (fun H8 c8 h8 => ?_)
      walk_at "wh"
      refine ⟨_, ps ++ [acc], rfl, (s6.trans s7).chg f5 c8, by rw [h8, List.map_append]; rfl, by rw [List.length_append, pl']; rfl, fun k p e => ?_⟩
      by_cases hk : k < ps.length
      · rw [List.getElem?_append_left hk] at e
        obtain ⟨y1, y2, y3⟩ := pr6 k p e
        exact ⟨y1, y2, c8 _ _ y2 (s7 _ _ y3)⟩
      · rw [List.getElem?_append_right (by omega)] at e
        have k0 : k - ps.length = 0 := by
          have := (List.getElem?_eq_some_iff.mp e).1
          simp at this; omega
        rw [k0] at e
        cases e
        have : k = i := by omega
        subst this
        exact ⟨s6.free f7, nacc, c8 _ _ nacc h7⟩
    · rintro σ H6 ⟨x0, ps, rfl, s6, h6, pl', pr6⟩
      have ne4 : ∀ p, H4 p = none → H p = none := fun p hp => Chg.free' c04 hp (L4.ne hp)
      walk_at "wh"
      exact q w5 ps (fun i y => (A1.take i).sum - (A2.take y).sum) H6 (c04.same s6) ((L4.same s6).up (by omega)) ⟨nw_at fw h6, pl', fun i p e => nw_at (ne4 p (pr6 i p e).1) (pr6 i p e).2.2⟩
-- @@split
def spLaw (K : PySem.W.Frag) : Sp := fun vs H Q _ => ∃ (a : Addr) (ns : List Int), vs = [.ref a] ∧ SqL K H a (ns.map V.int) ∧ ns.length ≤ 63 ∧ ∀ H', Q (.bl true) H'
theorem script_len40 {ns : List Int} (h : ns.length ≤ 63) : [V.int 0].length + (cutV (ns.map V.int) none (some 40)).length ≤ sizeLine := by
  rw [cut_takeV (by decide), List.length_take, List.length_map, sizeLine_eq, List.length_singleton]; omega
theorem script_int40 {ns : List Int} {i : Nat} {x : V} (h : ([V.int 0] ++ cutV (ns.map V.int) none (some 40))[i]? = some x) : ∃ z, x = .int z := by
  rw [cut_takeV (by decide)] at h
  rcases List.mem_append.mp (List.mem_of_getElem? h) with h | h
  · exact ⟨0, by simpa using h⟩
  · obtain ⟨z, _, rfl⟩ := List.mem_map.mp (List.mem_of_mem_take h)
    exact ⟨z, rfl⟩
theorem FdAt.eq {K : PySem.W.Frag} {H : Hp} {p p' : Addr} {a c : Nat} {f : Fd} (F : FdAt H p a c f) (F' : FdAt H p' a c f) : EqR K H 3 (.ref p) (.ref p') true := by
  have flat : ∀ v : V, flatV v = true → EqR K H 2 v v true := fun v hv => by
    have := EqR.flat (K := K) (H := H) (n := 2) (x := v) (y := v) hv hv
    rwa [eqV_self hv] at this
  cases f with
  | more w t =>
    exact EqR.tup (K := K) (H := H) (n := 2) (fun _ => true) (SqT.of F) (SqT.of F') (fun j x y hx hy => by
      match j with
      | 0 => cases hx; cases hy; exact flat _ rfl
      | 1 => cases hx; cases hy; exact flat _ rfl
      | 2 => cases hx; cases hy; exact flat _ rfl
      | j + 3 => simp at hx)
  | lead w l =>
    exact EqR.tup (K := K) (H := H) (n := 2) (fun _ => true) (SqT.of F) (SqT.of F') (fun j x y hx hy => by
      match j with
      | 0 => cases hx; cases hy; exact flat _ rfl
      | 1 => cases hx; cases hy; exact flat _ rfl
      | 2 => cases hx; cases hy; exact flat _ rfl
      | j + 3 => simp at hx)
  | tab g =>
    obtain ⟨q, ps, F, G⟩ := F
    obtain ⟨q', ps', F', G'⟩ := F'
    exact EqR.tup (K := K) (H := H) (n := 2) (fun _ => true) (SqT.of F) (SqT.of F') (fun j x y hx hy => by
      match j with
      | 0 => cases hx; cases hy; exact flat _ rfl
      | 1 =>
        cases hx; cases hy
        exact EqR.rows (SqL.of G.out) (SqL.of G'.out) (by rw [G.len, G'.len]) fun i r r' e1 e2 => ⟨_, by have := G.row i r e1; rw [rowV_ints] at this; exact SqL.of this, by have := G'.row i r' e2; rw [rowV_ints] at this; exact SqL.of this⟩
      | j + 2 => simp at hx)
theorem bat_eq {K : PySem.W.Frag} {H : Hp} {b l b' l' : Addr} {ps ps' : List Addr} {a c : Nat} {fs : List Fd} (hb : H b = some (.tup [.int a, .int c, .ref l])) (B : FlsAt H l ps a c fs) (hb' : H b' = some (.tup [.int a, .int c, .ref l'])) (B' : FlsAt H l' ps' a c fs) : EqR K H 5 (.ref b) (.ref b') true := by
  have flat : ∀ v : V, flatV v = true → EqR K H 4 v v true := fun v hv => by
    have := EqR.flat (K := K) (H := H) (n := 4) (x := v) (y := v) hv hv
    rwa [eqV_self hv] at this
  exact EqR.tup (K := K) (H := H) (n := 4) (fun _ => true) (SqT.of hb) (SqT.of hb') (fun j x y hx hy => by
    match j with
    | 0 => cases hx; cases hy; exact flat _ rfl
    | 1 => cases hx; cases hy; exact flat _ rfl
    | 2 =>
      cases hx; cases hy
      refine EqR.allT (SqL.of B.1) (SqL.of B'.1) (by rw [List.length_map, List.length_map, B.2.1, B'.2.1]) fun i u v hu hv => ?_
      rw [List.getElem?_map] at hu hv
      obtain ⟨r, er, rfl⟩ := Option.map_eq_some_iff.mp hu
      obtain ⟨r', er', rfl⟩ := Option.map_eq_some_iff.mp hv
      obtain ⟨f, ef⟩ : ∃ f, fs[i]? = some f := ⟨_, List.getElem?_eq_getElem (by have := (List.getElem?_eq_some_iff.mp er).1; have := B.2.1; omega)⟩
      exact (B.2.2 i r f er ef).eq (B'.2.2 i r' f er' ef)
    | j + 3 => simp at hx)
theorem FlsAt.bat {H : Hp} {b l : Addr} {ps : List Addr} {a c : Nat} {fs : List Fd} (B : FlsAt H l ps a c fs) (hb : H b = some (.tup [.int a, .int c, .ref l])) (ok : ∀ f ∈ fs, f.Ok) : BatAt H b l ps a c fs := ⟨hb, B.1, B.2.1, fun i p f e1 e2 => ⟨B.2.2 i p f e1 e2, ok f (List.mem_of_getElem? e2)⟩⟩
theorem BatAt.fls {H : Hp} {b l : Addr} {ps : List Addr} {a c : Nat} {fs : List Fd} (B : BatAt H b l ps a c fs) : FlsAt H l ps a c fs := ⟨B.lst, B.len, fun i p f e1 e2 => (B.fld i p f e1 e2).1⟩
theorem BatAt.oks {H : Hp} {b l : Addr} {ps : List Addr} {a c : Nat} {fs : List Fd} (B : BatAt H b l ps a c fs) : ∀ f ∈ fs, f.Ok := fun f hf => by
  obtain ⟨i, ei⟩ := List.getElem?_of_mem hf
  obtain ⟨p, ep⟩ : ∃ p, ps[i]? = some p := ⟨_, List.getElem?_eq_getElem (by have := (List.getElem?_eq_some_iff.mp ei).1; have := B.len; omega)⟩
  exact (B.fld i p f ep ei).2
theorem FlsAt.snoc {H : Hp} {l l' t : Addr} {ps : List Addr} {a c : Nat} {fs : List Fd} {f : Fd} (B : FlsAt H l ps a c fs) (h : H l' = some (.lst (ps.map V.ref ++ [.ref t]))) (F : FdAt H t a c f) : FlsAt H l' (ps ++ [t]) a c (fs ++ [f]) := by
  refine ⟨by rw [h, List.map_append]; rfl, by rw [List.length_append, List.length_append, B.2.1]; rfl, fun i p g e1 e2 => ?_⟩
  have bl := B.2.1
  by_cases hi : i < ps.length
  · rw [List.getElem?_append_left hi] at e1
    rw [List.getElem?_append_left (by omega)] at e2
    exact B.2.2 i p g e1 e2
  · rw [List.getElem?_append_right (by omega)] at e1 e2
    have i0 : i - ps.length = 0 := by
      have := (List.getElem?_eq_some_iff.mp e1).1
      simp at this; omega
    rw [i0] at e1
    rw [show i - fs.length = 0 by omega] at e2
    cases e1
    cases e2
    exact F
theorem FlsAt.drop {H : Hp} {l l' : Addr} {ps : List Addr} {a c : Nat} {fs : List Fd} (B : FlsAt H l ps a c fs) (k : Nat) (h : H l' = some (.lst ((ps.drop k).map V.ref))) : FlsAt H l' (ps.drop k) a c (fs.drop k) :=
  ⟨h, by rw [List.length_drop, List.length_drop, B.2.1], fun i p f e1 e2 => by rw [List.getElem?_drop] at e1 e2; exact B.2.2 _ p f e1 e2⟩
theorem FlsAt.take {H : Hp} {l l' : Addr} {ps : List Addr} {a c : Nat} {fs : List Fd} (B : FlsAt H l ps a c fs) (k : Nat) (h : H l' = some (.lst ((ps.take k).map V.ref))) : FlsAt H l' (ps.take k) a c (fs.take k) :=
  ⟨h, by rw [List.length_take, List.length_take, B.2.1], fun i p f e1 e2 => by
    by_cases hi : i < k
    · rw [List.getElem?_take_of_lt hi] at e1 e2
      exact B.2.2 _ p f e1 e2
    · rw [List.getElem?_eq_none (by rw [List.length_take]; omega)] at e1
      cases e1⟩
theorem cut_last5 (xs : List V) : cutV xs (some (-5)) none = xs.drop (xs.length - 5) := by
  show List.take (xs.length - (if (-5 : Int) < 0 then ((-5 : Int) + xs.length).toNat else min (-5 : Int).toNat xs.length)) (List.drop (if (-5 : Int) < 0 then ((-5 : Int) + xs.length).toNat else min (-5 : Int).toNat xs.length) xs) = _
  rw [if_pos (by decide), show ((-5 : Int) + xs.length).toNat = xs.length - 5 by omega]
  exact List.take_of_length_le (by rw [List.length_drop]; omega)
def Fd.isTab : Fd → Bool
  | .tab _ => true
  | _ => false
theorem plain_rise {f : Fd} {a c : Nat} (h : f.isTab = false) (ok : f.Ok) : f.Rise a c := by
  intro x y _ _
  cases f with
  | more w t =>
    obtain ⟨o1, o2, o3⟩ : 1 ≤ w ∧ -w ≤ t ∧ t ≤ w := ok
    refine ⟨fun _ => ?_, fun _ => ?_⟩
    · show (if x = y then t else if y < x then w else -w) ≤ (if x + 1 = y then t else if y < x + 1 then w else -w)
      split <;> split <;> (try split) <;> (try split) <;> omega
    · show (if x = y + 1 then t else if y + 1 < x then w else -w) ≤ (if x = y then t else if y < x then w else -w)
      split <;> split <;> (try split) <;> (try split) <;> omega
  | lead w l =>
    have o1 : 1 ≤ w := ok
    refine ⟨fun _ => ?_, fun _ => ?_⟩
    · show (if l ≤ (x : Int) - y then w else -w) ≤ (if l ≤ ((x + 1 : Nat) : Int) - y then w else -w)
      split <;> split <;> omega
    · show (if l ≤ (x : Int) - ((y + 1 : Nat) : Int) then w else -w) ≤ (if l ≤ (x : Int) - y then w else -w)
      split <;> split <;> omega
  | tab g => cases h
theorem sorted_one : ∀ {ms ns : List Int}, ms.Perm ns → ms.Pairwise (· ≤ ·) → ns.Pairwise (· ≤ ·) → ms = ns
  | [], ns, p, _, _ => p.nil_eq
  | a :: ms, [], p, _, _ => absurd p.length_eq (by simp)
  | a :: ms, b :: ns, p, h1, h2 => by
    have e : a = b := by
      have m1 : a ∈ b :: ns := p.subset (.head _)
      have m2 : b ∈ a :: ms := p.symm.subset (.head _)
      have q1 := List.pairwise_cons.mp h1
      have q2 := List.pairwise_cons.mp h2
      rcases List.mem_cons.mp m1 with e | m1
      · exact e
      · rcases List.mem_cons.mp m2 with e | m2
        · exact e.symm
        · have := q2.1 a m1
          have := q1.1 b m2
          omega
    subst e
    rw [sorted_one ((List.perm_cons a).mp p) (List.pairwise_cons.mp h1).2 (List.pairwise_cons.mp h2).2]
def plainI (fs : List Fd) (i : Nat) : Bool := match fs[i]? with
  | some f => !f.isTab
  | none => true
-- @@split
theorem idx_get {ps : List Addr} {fs : List Fd} {idx : List Nat} (hb : ∀ i ∈ idx, i < ps.length) (hl : ps.length = fs.length) {j : Nat} {p : Addr} {f : Fd} (e1 : (idx.map fun i => ps.getD i 0)[j]? = some p) (e2 : (idx.map fun i => fs.getD i (.more 1 0))[j]? = some f) : ∃ i, i ∈ idx ∧ ps[i]? = some p ∧ fs[i]? = some f := by
  rw [List.getElem?_map] at e1 e2
  obtain ⟨i, ei, rfl⟩ := Option.map_eq_some_iff.mp e1
  rw [ei] at e2
  cases e2
  have hi := hb i (List.mem_of_getElem? ei)
  refine ⟨i, List.mem_of_getElem? ei, ?_, ?_⟩
  · rw [List.getD_eq_getElem?_getD, List.getElem?_eq_getElem hi]; rfl
  · show fs[i]? = some (fs.getD i (.more 1 0))
    rw [List.getD_eq_getElem?_getD, List.getElem?_eq_getElem (by omega)]; rfl
theorem mono_le {f : Nat → Int} {n : Nat} (h : ∀ i, i < n → f i ≤ f (i + 1)) {i j : Nat} (hij : i ≤ j) (hj : j ≤ n) : f i ≤ f j := by
  induction hij with
  | refl => exact Int.le_refl _
  | step hij ih => exact Int.le_trans (ih (by omega)) (h _ (by omega))
theorem mono_sorted {f : Nat → Int} {n : Nat} (h : ∀ i, i < n → f i ≤ f (i + 1)) : ((List.range (n + 1)).map f).Pairwise (· ≤ ·) := List.pairwise_iff_getElem.mpr fun i j hi hj lt => by
  rw [List.length_map, List.length_range] at hj
  simp only [List.getElem_map, List.getElem_range]
  exact mono_le h (by omega) (by omega)
set_option maxHeartbeats 0 in
theorem ok_law {f : Addr} {fd : FuncData} (F : Fun K "law" "law" s_law f fd) (N : Nm mg) (D__law_battle : Def P w K mg base CX0 5 "_law_battle" ["_law_left_here", "_law_most", "_law_fields"] sp__law_battle) (D__law_deep : Def P w K mg base CX0 7 "_law_deep" ["_law_thing"] sp__law_deep) (D__law_draw : Def P w K mg base CX0 2 "_law_draw" ["_law_left_here", "_law_base"] sp__law_draw) (D__law_left : Def P w K mg base CX0 2 "_law_left" ["_law_script", "_law_k"] sp__law_left) (D__law_rises : Def P w K mg base CX0 2 "_law_rises" ["_law_battle_here"] sp__law_rises) (D__law_rising : Def P w K mg base CX0 3 "_law_rising" ["_law_left_here", "_law_first", "_law_second"] sp__law_rising) (D_pay : Def P w K mg base CX0 7 "pay" ["battle", "field", "x", "y"] sp_pay) (D_rises : Def P w K mg base CX0 7 "rises" ["battle"] sp_rises) : FnOk P w K mg base CX0 9 f fd ["_law_script"] (spLaw K) := by
  refine F.ok sc_law (fun vs H Q E h => by obtain ⟨n, k, rfl, _⟩ := h; rfl) (fun cdv A outer s H vs Q E hr h => ?_)
  obtain ⟨a, ns0, rfl, hS, hlen, k⟩ := h
  have hu := hu40 hr
  refine ⟨_, (pss_cons (psFor PassesOwn.never rfl (piSeqK (K := K) rfl (pe_op oAdd (peLst (pa_cons pe_int pa_nil)) (pe_slice (slK (K := K) rfl) (pq 0) po_none (poSome pe_int)))) (pg_name (i := 1) sc_law.nd rfl (by first | exact Or.inl rfl | exact Or.inr rfl)) (pss_cons (psS (i := 2) sc_law.nd (pD D__law_left hr pass0 (pa_cons (peLst (pa_cons (pq 1) pa_nil)) (pa_cons pe_int pa_nil))))
      (pss_cons (psS (i := 3) sc_law.nd (pD D__law_battle hr pass0 (pa_cons (pq 2) (pa_cons (peIxK (K := K) rfl (peLst (pa_cons pe_int (pa_cons pe_int pa_nil))) (pD D__law_draw hr pass0 (pa_cons (pq 2) (pa_cons pe_int pa_nil)))) (pa_cons pe_int pa_nil)))))
      (pss_cons (ps_asg (pq 3) (pgAnyK (K := K) (n := 3) rfl rfl (pgsCons (pg_name (i := 4) sc_law.nd rfl (by first | exact Or.inl rfl | exact Or.inr rfl)) (pgsCons (pg_name (i := 5) sc_law.nd rfl (by first | exact Or.inl rfl | exact Or.inr rfl)) (pgsCons (pg_name (i := 6) sc_law.nd rfl (by first | exact Or.inl rfl | exact Or.inr rfl)) pgsNil)))))
      (pss_cons (psS (i := 7) sc_law.nd (pD D__law_rising hr pass0 (pa_cons (pq 2) (pa_cons (pq 4) (pa_cons (pq 5) pa_nil)))))
      (pss_cons (psS (i := 8) sc_law.nd (pD D__law_deep hr pass0 (pa_cons (pq 7) pa_nil)))
      (pss_cons (psS (i := 9) sc_law.nd (pD D__law_draw hr pass0 (pa_cons (pq 2) (pa_cons (pe_op oAdd (pq 4) pe_int) pa_nil))))
      (pss_cons (psS (i := 10) sc_law.nd (pD D__law_draw hr pass0 (pa_cons (pq 2) (pa_cons (pe_op oAdd (pq 5) pe_int) pa_nil))))
      (pss_cons (ps_asg (pe_op oAdd (peIxK (K := K) rfl (peIxK (K := K) rfl (pq 8) (pq 9)) (pq 10)) (peIxK (K := K) rfl (peLst (pa_cons pe_int (pa_cons (pe_un uNeg pe_int) (pa_cons pe_int (pa_cons (pe_un uNeg pe_int) pa_nil))))) (pD D__law_draw hr pass0 (pa_cons (pq 2) (pa_cons pe_int pa_nil))))) (pg_sub (peIxK (K := K) rfl (pq 8) (pq 9)) (pq 10) setM))
      (pss_cons (psC (i := 11) (N := ["_law_field"]) (ks := [none]) sc_law.nd (piSeqK (K := K) rfl (pq 6)) (fun cl C s3 H3 fp => (pg_name (i := 0) nb_10 rfl (by first | exact Or.inl rfl | exact Or.inr rfl))) (fun cl C s3 H3 fp => (pts_one (ptC (oNeK (K := K) rfl (by exact hu)) (peIxK (K := K) rfl (pq 0) pe_int) pe_str))) (fun cl C s3 H3 fp => (pq 0)) (.skip .nil))
      (pss_cons (psS (i := 12) sc_law.nd (peLst (pa_cons (pq 6) (pa_cons (pe_op oAdd (pq 11) (peLst (pa_cons (peTup (pa_cons pe_str (pa_cons (pq 7) pa_nil))) pa_nil))) (pa_cons (pe_op oAdd (pq 11) (peLst (pa_cons (peTup (pa_cons pe_str (pa_cons (pq 8) pa_nil))) pa_nil))) (pa_cons (pe_op oAdd (pe_slice (slK (K := K) rfl) (pq 11) po_none (poSome pe_int)) (peLst (pa_cons (peTup (pa_cons pe_str (pa_cons pe_int (pa_cons pe_int pa_nil)))) pa_nil))) pa_nil))))))
      (pss_cons (psFor PassesOwn.never rfl (piSeqK (K := K) rfl (pq 12)) (pg_name (i := 13) sc_law.nd rfl (by first | exact Or.inl rfl | exact Or.inr rfl)) (pss_cons (psS (i := 14) sc_law.nd (peTup (pa_cons (pq 4) (pa_cons (pq 5) (pa_cons (pe_slice (slK (K := K) rfl) (pq 13) (poSome (pe_un uNeg pe_int)) po_none) pa_nil)))))
      (pss_cons (psS (i := 15) sc_law.nd (pD D__law_deep hr pass0 (pa_cons (pq 14) pa_nil)))
      (pss_cons (psS (i := 16) sc_law.nd (pD D_rises hr pass0 (pa_cons (pq 15) pa_nil)))
      (pss_one (psIf (ptW (pwOr (pt_not (ptV (pB (cIsiK (K := K) rfl) N.isinstance_ bt_isinstance (pa_cons (pq 16) (pa_cons (pTy N.bool_ bt_bool) pa_nil))))) (pwOr (ptC (oNeK (K := K) rfl (by exact hu)) (pq 16) (pD D__law_rises hr pass0 (pa_cons (pq 14) pa_nil))) (pw_or1 (ptC (oNeK (K := K) rfl (by exact hu)) (pq 15) (pq 14)))))) (pss_one (ps_ret pe_bl)) pss_nil))))))
      (pss_cons (psIf (pt_not (ptV (pD D_rises hr pass0 (pa_cons (peTup (pa_cons (pq 4) (pa_cons (pq 5) (pa_cons (peIxK (K := K) rfl (pq 12) pe_int) pa_nil)))) pa_nil)))) (pss_one (ps_ret pe_bl)) pss_nil)
      (pss_cons (psS (i := 17) sc_law.nd (pD D__law_draw hr pass0 (pa_cons (pq 2) (pa_cons (pB (cLenK (K := K) rfl) N.len_ bt_len (pa_cons (peIxK (K := K) rfl (pq 12) pe_int) pa_nil)) pa_nil))))
      (pss_cons (psC (i := 18) (N := ["_law_one", "_law_first", "_law_second", "_law_listed", "_law_k", "_law_y"]) (ks := [none, some 4, some 5, some 12, some 17, some 10]) sc_law.nd (piRng1 N.range_ (pa_cons (pe_op oAdd (pq 4) pe_int) pa_nil)) (fun cl C s3 H3 fp => (pg_name (i := 0) nb_11 rfl (by first | exact Or.inl rfl | exact Or.inr rfl))) (fun cl C s3 H3 fp => pts_nil) (fun cl C s3 H3 fp => (pD D_pay hr pass0 (pa_cons (peTup (pa_cons (pq 1) (pa_cons (pq 2) (pa_cons (peIxK (K := K) rfl (pq 3) pe_int) pa_nil)))) (pa_cons (pq 4) (pa_cons (pq 0) (pa_cons (pq 5) pa_nil)))))) (.skip (.take rfl rfl (by first | exact Or.inl rfl | exact Or.inr rfl) (.take rfl rfl (by first | exact Or.inl rfl | exact Or.inr rfl) (.take rfl rfl (by first | exact Or.inl rfl | exact Or.inr rfl) (.take rfl rfl (by first | exact Or.inl rfl | exact Or.inr rfl) (.take rfl rfl (by first | exact Or.inl rfl | exact Or.inr rfl) .nil)))))))
      (pss_one (psIf (ptC (oNeK (K := K) rfl (by exact hu)) (pq 18) (pB (cSortK (K := K) rfl) N.sorted_ bt_sorted (pa_cons (pq 18) pa_nil))) (pss_one (ps_ret pe_bl)) pss_nil)))))))))))))))))
      (pss_one (ps_ret pe_bl))), ?_⟩
  walk_at "wh"
  refine newL_rd (fun p1 H1 hf1 hs1 ha1 => ?_)
  walk_at "wh"
  refine sl_rd (hs1.seq hS) (fun p2 H2 hf2 hs2 ha2 => ?_)
  walk_at "wh"
  refine cat_rd (hs2 _ _ ha1) ha2 (script_len40 hlen) (fun p3 H3 hf3 hs3 ha3 => ?_)
  walk_at "wh"
  refine iterL_rd ha3 ?_
  refine loop_list (xs := [V.int 0] ++ cutV (ns0.map V.int) none (some 40)) (fun i σ H4 => ∃ x1 x2 x3 x4 x5 x6 x7 x8 x9 x10 x11 x12 x13 x14 x15 x16 x17 x18 : Option V, σ = [some (.ref a), x1, x2, x3, x4, x5, x6, x7, x8, x9, x10, x11, x12, x13, x14, x15, x16, x17, x18] ∧ Same H3 H4) ?_ ?_ ?_ ?_
  · exact ⟨_, _, _, _, _, _, _, _, _, _, _, _, _, _, _, _, _, _, rfl, Same.refl _⟩
  · rintro i σ H4 _ ⟨_, _, _, _, _, _, _, _, _, _, _, _, _, _, _, _, _, _, _, h⟩
    exact SqL.of (h _ _ ha3)
  · rintro i x σ H4 hi ⟨x1, x2, x3, x4, x5, x6, x7, x8, x9, x10, x11, x12, x13, x14, x15, x16, x17, x18, rfl, s4⟩
    obtain ⟨z, rfl⟩ := script_int40 hi
    walk_at "wh"
    refine newL_rd (fun c5 H5 f5 s5 h5 => ?_)
    walk_at "wh"
    refine left_rd h5 (fun pl H6 f6 s6 L6 => ?_)
    have fpl : H3 pl = none := (s4.trans s5).free f6
    have s36 : Same H3 H6 := (s4.trans s5).trans s6
    walk_at "wh"
    refine newL_rd (fun q7 H7 f7 s7 h7 => ?_)
    walk_at "wh"
    refine draw_rd (L6.same s7) (by omega) (by omega) (by omega) (fun d8 H8 d80 d81 c8 L8 => ?_)
    have h78 := c8 _ _ (L6.ne f7) h7
    walk_at "wh"
    refine ixAny_rd h78 (by omega) (by simp only [List.length_cons, List.length_nil]; omega) ?_
    intro v hv
    obtain ⟨t, rfl, ht⟩ : ∃ t : Nat, v = .int t ∧ t ≤ 10 := by
      simp only [List.mem_cons, List.not_mem_nil, or_false] at hv
      rcases hv with rfl | rfl
      · exact ⟨6, rfl, by omega⟩
      · exact ⟨10, rfl, by omega⟩
    clear hv h78 h7
    have s38 : Same H3 H8 := (s36.trans s7).chg fpl c8
    walk_at "wh"
    refine law_battle_rd ht L8 (by omega) (fun bt l ps n m fs H9 c9 L9 B9 O => ?_)
    have s39 := s38.chg fpl c9
    obtain ⟨⟨on, om⟩, of1, of2⟩ := O
    have bl := B9.len
    obtain ⟨o9, e9⟩ := L9.some
    walk_at "wh"
    refine unpT_rd (rm_same pl H9 _ _ B9.out) ?_
    walk_at "wh"
    refine rising_rd L9 (by omega) on om (fun r qs g H10 c10 L10 G10 => ?_)
    have B10 := B9.same (Chg.rm c10)
    have G10 : GridAt (rm pl H10) r qs (n + 1) (m + 1) g := G10.same (nw_rm e9)
    have s310 := s39.chg fpl c10
    walk_at "wh"
    refine deepG_rd (G10.same (rm_same pl H10)) (by omega) (by omega) (fun r2 qs2 H11 F11 => ?_)
    have L11 := L10.same F11.same
    have r2pl : r2 ≠ pl := L10.ne F11.facc
    walk_at "wh"
    refine draw_rd L11 (by omega) (by omega) (by omega) (fun dx H12 dx0 dx1 c12 L12 => ?_)
    obtain ⟨x, rfl⟩ : ∃ x : Nat, dx = x := ⟨dx.toNat, by omega⟩
    walk_at "wh"
    refine draw_rd L12 (by omega) (by omega) (by omega) (fun dy H13 dy0 dy1 c13 L13 => ?_)
    obtain ⟨y, rfl⟩ : ∃ y : Nat, dy = y := ⟨dy.toNat, by omega⟩
    have G13 : GridAt (rm pl H13) r2 qs2 (n + 1) (m + 1) g := by
      have G11 : GridAt (rm pl H11) r2 qs2 (n + 1) (m + 1) g := ⟨rm_at r2pl F11.out, F11.len, fun i p e => rm_at (L10.ne (F11.row i p e).1) (F11.row i p e).2⟩
      exact (G11.same (Chg.rm c12)).same (Chg.rm c13)
    obtain ⟨qx, eqx, hqx⟩ := (G13.same (rm_same pl H13)).some (i := x) (by omega)
    have fqx : H10 qx = none := (F11.row x qx eqx).1
    have qxpl : qx ≠ pl := L10.ne fqx
    have ixx : atI (qs2.map V.ref) (x : Int) = some (.ref qx) := atI_nat (by rw [List.getElem?_map, eqx]; rfl)
    walk_at "wh"
    refine ixL_rd (v := .ref qx) (rm_same pl H13 _ _ G13.out) ixx ?_
    walk_at "wh"
    refine ixL_rd (v := .int (g x y)) hqx (atI_nat (rowV_get (by omega))) ?_
    walk_at "wh"
    refine newL_rd (fun q14 H14 f14 s14 h14 => ?_)
    walk_at "wh"
    refine draw_rd (L13.same s14) (by omega) (by omega) (by omega) (fun d15 H15 d150 d151 c15 L15 => ?_)
    have h1415 := c15 _ _ (L13.ne f14) h14
    walk_at "wh"
    refine ixAny_rd h1415 (by omega) (by simp only [List.length_cons, List.length_nil]; omega) ?_
    intro v hv
    obtain ⟨dd, rfl⟩ : ∃ t : Int, v = .int t := by
      simp only [List.mem_cons, List.not_mem_nil, or_false] at hv
      rcases hv with rfl | rfl | rfl | rfl <;> exact ⟨_, rfl⟩
    clear hv h1415 h14
    have G15 : GridAt (rm pl H15) r2 qs2 (n + 1) (m + 1) g := (G13.same (Same.rm s14)).same (Chg.rm c15)
    have hqx15 : H15 qx = some (.lst (rowV (m + 1) (g x))) := c15 _ _ qxpl (s14 _ _ hqx)
    walk_at "wh"
    refine ixL_rd (v := .ref qx) (rm_same pl H15 _ _ G15.out) ixx ?_
    walk_at "wh"
    refine set_rd (j := y) hqx15 (by rw [rowV_len, ixN_in (by omega) (by omega)]; congr 1) (fun H16 c16 h16 => ?_)
    rw [rowV_set] at h16
    have L16 := L15.chg c16 (Ne.symm qxpl)
    have S16 : Same (rm pl H10) (rm pl H16) := fun b o e => by
      have e1 := rm_of e
      exact rm_at e1.1 (c16 _ _ (ne_of_none e1.2 fqx) (c15 _ _ e1.1 (s14 _ _ (c13 _ _ e1.1 (c12 _ _ e1.1 (F11.same _ _ e1.2))))))
    have B16 := B10.same S16
    have G16 := G10.same S16
    have nqx : ∀ (i : Nat) p, qs2[i]? = some p → i ≠ x → p ≠ qx := fun i p e ne he => by
      subst he
      have P := List.pairwise_iff_getElem.mp F11.nd
      obtain ⟨a1, a2⟩ := List.getElem?_eq_some_iff.mp e
      obtain ⟨b1, b2⟩ := List.getElem?_eq_some_iff.mp eqx
      rcases Nat.lt_or_gt_of_ne ne with lt | gt
      · exact P i x a1 b1 lt (a2.trans b2.symm)
      · exact P x i b1 a1 gt (b2.trans a2.symm)
    have r2qx : r2 ≠ qx := fun e => F11.nin (e ▸ List.mem_of_getElem? eqx)
    obtain ⟨g2, hg2⟩ : ∃ g2, GridAt (rm pl H16) r2 qs2 (n + 1) (m + 1) g2 := by
      refine ⟨fun i j => if i = x then (if j = y then g x y + dd else g x j) else g i j, rm_at r2pl (c16 _ _ r2qx (rm_same pl H15 _ _ G15.out)), G15.len, fun i p e => ?_⟩
      by_cases ie : i = x
      · subst ie
        rw [eqx] at e
        cases e
        refine rm_at qxpl ?_
        rw [h16]
        congr 2
        exact rowV_ext fun t _ => by rw [if_pos rfl]
      · refine rm_at (L10.ne (F11.row i p e).1) ?_
        rw [c16 _ _ (nqx i p e ie) (rm_same pl H15 _ _ (G15.row i p e))]
        congr 2
        exact rowV_ext fun t _ => by rw [if_neg ie]
    have s316 : Same H3 H16 := ((((((s310.trans F11.same).chg fpl c12).chg fpl c13).trans s14).chg fpl c15)).chg (s310.free fqx) c16
    clear G15 G13 hqx hqx15 h16 B10 G10 B9 S16 F11 L15 L13 L12 L11 L10 L9 L8 L6 nqx
    have oks := B16.oks
    have Bl := B16.fls
    walk_at "wh"
    refine iterL_rd (rm_same pl H16 _ _ B16.lst) ?_
    refine comp_I (Wk.list (SqL.of (rm_same pl H16 _ _ B16.lst))) (by rw [List.length_map, sizeLine_eq]; omega) (fun i => .ref (ps.getD i 0)) (plainI fs) (fun j σ => ∃ t : Option V, σ = [t]) ⟨none, rfl⟩ ?_ ?_
    · rintro j v σ H17 R S hj s17 hx ⟨t', rfl⟩ k1 k2
      obtain ⟨p, f, rfl, ep, ef, hf, ok⟩ := ((B16.same (rm_same pl H16)).same s17).elt hx
      have eg : ps.getD j 0 = p := by rw [List.getD_eq_getElem?_getD, ep]; rfl
      have epl : plainI fs j = !f.isTab := by unfold plainI; rw [ef]
      rw [epl] at k1 k2
      rw [eg] at k1
      cases f with
      | more wt tt =>
        have hf : H17 p = some (.tup [.str "more", .int wt, .int tt]) := hf
        walk_at "wh"
        refine ixT_rd (v := .str "more") hf rfl ?_
        walk_at "wh"
        refine br_not (br_dF (by decide) ?_)
        walk_at "wh"
        exact k1 rfl _ _ (Same.refl _) ⟨_, rfl⟩
      | lead wt tt =>
        have hf : H17 p = some (.tup [.str "lead", .int wt, .int tt]) := hf
        walk_at "wh"
        refine ixT_rd (v := .str "lead") hf rfl ?_
        walk_at "wh"
        refine br_not (br_dF (by decide) ?_)
        walk_at "wh"
        exact k1 rfl _ _ (Same.refl _) ⟨_, rfl⟩
      | tab gg =>
        obtain ⟨q', ps', hf, _⟩ := hf
        walk_at "wh"
        refine ixT_rd (v := .str "table") hf rfl ?_
        walk_at "wh"
        refine br_not (br_dT rfl ?_)
        exact k2 rfl _ _ (Same.refl _) ⟨_, rfl⟩
    intro pn H17 f17 s17 h17
    rw [List.length_map, bl] at h17
    obtain ⟨idx, eidx⟩ : ∃ idx, (List.range fs.length).filter (plainI fs) = idx := ⟨_, rfl⟩
    rw [eidx] at h17
    have idl : idx.length ≤ 5 := by
      have := List.length_filter_le (plainI fs) (List.range fs.length)
      rw [eidx, List.length_range] at this
      omega
    have idb : ∀ i ∈ idx, i < ps.length := fun i hi => by
      rw [← eidx] at hi
      have := List.mem_range.mp (List.mem_filter.mp hi).1
      omega
    have idp : ∀ i ∈ idx, ∀ f, fs[i]? = some f → f.isTab = false := fun i hi f ef => by
      rw [← eidx] at hi
      have := (List.mem_filter.mp hi).2
      unfold plainI at this
      rw [ef] at this
      simpa using this
    obtain ⟨PS, ePS⟩ : ∃ PS, idx.map (fun i => ps.getD i 0) = PS := ⟨_, rfl⟩
    obtain ⟨FS, eFS⟩ : ∃ FS, idx.map (fun i => fs.getD i (.more 1 0)) = FS := ⟨_, rfl⟩
    have PSl : PS.length = idx.length := by rw [← ePS, List.length_map]
    have FSl : FS.length = idx.length := by rw [← eFS, List.length_map]
    have pnpl : pn ≠ pl := L16.ne f17
    have B17 := B16.same (Same.rm s17)
    have N17 : FlsAt (rm pl H17) pn PS n m FS := ⟨rm_at pnpl (by rw [h17, ← ePS, List.map_map]; rfl), by omega, fun i p f e1 e2 => by
      rw [← ePS] at e1
      rw [← eFS] at e2
      obtain ⟨i', _, e3, e4⟩ := idx_get idb bl e1 e2
      exact (B17.fld i' p f e3 e4).1⟩
    have NF : ∀ f ∈ FS, f.Ok ∧ f.isTab = false := fun f hf => by
      rw [← eFS] at hf
      obtain ⟨i, hi, rfl⟩ := List.mem_map.mp hf
      have il := idb i hi
      have e : fs[i]? = some (fs.getD i (.more 1 0)) := by rw [List.getD_eq_getElem?_getD, List.getElem?_eq_getElem (by omega)]; rfl
      exact ⟨oks _ (List.mem_of_getElem? e), idp i hi _ e⟩
    have L17 := L16.same s17
    have G17 := G16.same (Same.rm s17)
    have Hg17 := hg2.same (Same.rm s17)
    have s317 := s316.trans s17
    have n17 := rm_same pl H17 _ _ N17.1
    walk_at "wh"
    refine newT_rd (fun t1 I1 i1 j1 k1 => ?_)
    walk_at "wh"
    refine newL_rd (fun u1 I2 i2 j2 k2 => ?_)
    walk_at "wh"
    refine cat_rd (j2 _ _ (j1 _ _ n17)) k2 (by rw [List.length_map, sizeLine_eq, List.length_singleton]; omega) (fun w1 I3 i3 j3 k3 => ?_)
    have J3 := (j1.trans j2).trans j3
    walk_at "wh"
    refine newT_rd (fun t2 I4 i4 j4 k4 => ?_)
    walk_at "wh"
    refine newL_rd (fun u2 I5 i5 j5 k5 => ?_)
    walk_at "wh"
    refine cat_rd (j5 _ _ (j4 _ _ (J3 _ _ n17))) k5 (by rw [List.length_map, sizeLine_eq, List.length_singleton]; omega) (fun w2 I6 i6 j6 k6 => ?_)
    have J6 := ((J3.trans j4).trans j5).trans j6
    walk_at "wh"
    refine sl_rd (SqL.of (J6 _ _ n17)) (fun u3 I7 i7 j7 k7 => ?_)
    rw [cut_takeV (by decide), show (4 : Int).toNat = 4 from rfl, ← List.map_take] at k7
    walk_at "wh"
    refine newT_rd (fun t3 I8 i8 j8 k8 => ?_)
    walk_at "wh"
    refine newL_rd (fun u4 I9 i9 j9 k9 => ?_)
    walk_at "wh"
    refine cat_rd (j9 _ _ (j8 _ _ k7)) k9 (by rw [List.length_map, sizeLine_eq, List.length_singleton, List.length_take]; omega) (fun w3 I10 i10 j10 k10 => ?_)
    have J10 := (((J6.trans j7).trans j8).trans j9).trans j10
    walk_at "wh"
    refine newL_rd (fun ls I11 i11 j11 k11 => ?_)
    have J11 := J10.trans j11
    have LA := L17.same J11
    have ne_pl : ∀ {q : Addr} {I : Hp}, Same H17 I → I q = none → q ≠ pl := fun sI h => (L17.same sI).ne h
    -- the four lists, away from what is drawn from
    have X0 : FlsAt (rm pl I11) l ps n m fs := Bl.same (Same.rm (s17.trans J11))
    have XN : FlsAt (rm pl I11) pn PS n m FS := N17.same (Same.rm J11)
    have T1 : FdAt (rm pl I11) t1 n m (.tab g) := ⟨r, qs, rm_at (ne_pl (Same.refl _) i1) (j11 _ _ (j10 _ _ (j9 _ _ (j8 _ _ (j7 _ _ (j6 _ _ (j5 _ _ (j4 _ _ (j3 _ _ (j2 _ _ k1)))))))))), G17.same (Same.rm J11)⟩
    have T2 : FdAt (rm pl I11) t2 n m (.tab g2) := ⟨r2, qs2, rm_at (ne_pl J3 i4) (j11 _ _ (j10 _ _ (j9 _ _ (j8 _ _ (j7 _ _ (j6 _ _ (j5 _ _ k4))))))), Hg17.same (Same.rm J11)⟩
    have T3 : FdAt (rm pl I11) t3 n m (.more 1 0) := rm_at (ne_pl (J6.trans j7) i8) (j11 _ _ (j10 _ _ (j9 _ _ k8)))
    have X1 : FlsAt (rm pl I11) w1 (PS ++ [t1]) n m (FS ++ [.tab g]) := XN.snoc (rm_at (ne_pl (j1.trans j2) i3) (j11 _ _ (j10 _ _ (j9 _ _ (j8 _ _ (j7 _ _ (j6 _ _ (j5 _ _ (j4 _ _ k3))))))))) T1
    have X2 : FlsAt (rm pl I11) w2 (PS ++ [t2]) n m (FS ++ [.tab g2]) := XN.snoc (rm_at (ne_pl ((J3.trans j4).trans j5) i6) (j11 _ _ (j10 _ _ (j9 _ _ (j8 _ _ (j7 _ _ k6)))))) T2
    have X34 : FlsAt (rm pl I11) u3 (PS.take 4) n m (FS.take 4) := XN.take 4 (rm_at (ne_pl J6 i7) (j11 _ _ (j10 _ _ (j9 _ _ (j8 _ _ k7)))))
    have X3 : FlsAt (rm pl I11) w3 (PS.take 4 ++ [t3]) n m (FS.take 4 ++ [.more 1 0]) := X34.snoc (rm_at (ne_pl (((J6.trans j7).trans j8).trans j9) i10) (j11 _ _ k10)) T3
    have hls : rm pl I11 ls = some (.lst [.ref l, .ref w1, .ref w2, .ref w3]) := rm_at (ne_pl J10 i11) k11
    have FT : ∀ f ∈ FS.take 4, f.Ok ∧ f.isTab = false := fun f hf => NF f (List.mem_of_mem_take hf)
    have M1 : ∀ f ∈ FS.take 4 ++ [Fd.more 1 0], f.Ok ∧ f.isTab = false := fun f hf => by
      rcases List.mem_append.mp hf with h | h
      · exact FT f h
      · have : f = .more 1 0 := by simpa using h
        subst this
        exact ⟨⟨by decide, by decide, by decide⟩, rfl⟩
    have l3 : (FS.take 4 ++ [Fd.more 1 0]).length ≤ 5 ∧ 1 ≤ (FS.take 4 ++ [Fd.more 1 0]).length := by
      rw [List.length_append, List.length_take, List.length_singleton]
      omega
    have snocOk : ∀ (gg : Nat → Nat → Int), ∀ f ∈ FS ++ [Fd.tab gg], f.Ok := fun gg f hf => by
      rcases List.mem_append.mp hf with h | h
      · exact (NF f h).1
      · have : f = .tab gg := by simpa using h
        subst this
        trivial
    have s3I : Same H3 I11 := s317.trans J11
    clear N17 B17 G17 Hg17 h17 B16 G16 hg2 k1 k2 k3 k4 k5 k6 k7 k8 k9 k10 i1 i2 i3 i4 i5 i6 i7 i8 i9 i10 j1 j2 j3 j4 j5 j6 j7 j8 j9 j10 J3 J6 J10 idb idp eidx ePS eFS
    walk_at "wh"
    refine iterL_rd (rm_same pl I11 _ _ hls) ?_
    refine loop_list (xs := [V.ref l, V.ref w1, V.ref w2, V.ref w3]) (fun j σ K0 => ∃ y13 y14 y15 y16 y17 y18 : Option V, σ = [some (.ref a), some (.int z), some (.ref pl), some (.ref bt), some (.int n), some (.int m), some (.ref l), some (.ref r), some (.ref r2), some (.int x), some (.int y), some (.ref pn), some (.ref ls), y13, y14, y15, y16, y17, y18] ∧ Same I11 K0) ?_ ?_ ?_ ?_
    · exact ⟨_, _, _, _, _, _, rfl, Same.refl _⟩
    · rintro j σ K0 _ ⟨_, _, _, _, _, _, _, s⟩
      exact SqL.of (s _ _ (rm_same pl I11 _ _ hls))
    · rintro j v σ K0 hj ⟨y13, y14, y15, y16, y17, y18, rfl, sK⟩
      obtain ⟨lx, px, fx, rfl, Xx, okx, lx1, lx2⟩ : ∃ (lx : Addr) (px : List Addr) (fx : List Fd), v = .ref lx ∧ FlsAt (rm pl I11) lx px n m fx ∧ (∀ f ∈ fx, f.Ok) ∧ 1 ≤ fx.length ∧ fx.length ≤ 6 := by
        have := List.mem_of_getElem? hj
        simp only [List.mem_cons, List.not_mem_nil, or_false] at this
        rcases this with rfl | rfl | rfl | rfl
        · exact ⟨_, _, _, rfl, X0, oks, of1, by omega⟩
        · exact ⟨_, _, _, rfl, X1, snocOk g, by rw [List.length_append]; simp, by rw [List.length_append, List.length_singleton]; omega⟩
        · exact ⟨_, _, _, rfl, X2, snocOk g2, by rw [List.length_append]; simp, by rw [List.length_append, List.length_singleton]; omega⟩
        · exact ⟨_, _, _, rfl, X3, fun f hf => (M1 f hf).1, l3.2, by omega⟩
      have XK := (Xx.same (rm_same pl I11)).same sK
      have pxl := XK.2.1
      walk_at "wh"
      refine sl_rd (SqL.of XK.1) (fun l5 K1 f1 s1 h1 => ?_)
      rw [cut_last5, List.length_map, ← List.map_drop] at h1
      have X5 : FlsAt K1 l5 (px.drop (px.length - 5)) n m (fx.drop (px.length - 5)) := (XK.same s1).drop _ h1
      walk_at "wh"
      refine newT_rd (fun b5 K2 f2 s2 h2 => ?_)
      have X52 := X5.same s2
      have ok5 : ∀ f ∈ fx.drop (px.length - 5), f.Ok := fun f hf => okx f (List.mem_of_mem_drop hf)
      have l5l : (fx.drop (px.length - 5)).length ≤ 5 ∧ 1 ≤ (fx.drop (px.length - 5)).length := by rw [List.length_drop]; omega
      have O5 : OkB n m (fx.drop (px.length - 5)) := ⟨⟨on, om⟩, l5l.2, l5l.1⟩
      walk_at "wh"
      refine deepB_rd h2 X52 on om (by omega) (fun b6 l6 qs6 K3 s3 h6 X6 => ?_)
      have h6 := nw_same _ _ _ _ h6
      have X6 := X6.same (nw_same _ _)
      have h23 := s3 _ _ h2
      have X53 := X52.same s3
      walk_at "wh"
      refine rises_rd (X6.bat h6 ok5) O5 (fun K4 s4' => ?_)
      walk_at "wh"
      refine isiB_rd ?_
      walk_at "wh"
      refine br_not (br_T ?_)
      walk_at "wh"
      refine law_rises_rd ((X53.same s4').bat (s4' _ _ h23) ok5) O5 (fun K5 s5' => ?_)
      walk_at "wh"
      refine br_not (br_dT rfl ?_)
      have s35 := s4'.trans s5'
      walk_at "wh"
      refine eqO_rd (bat_eq (s35 _ _ h6) (X6.same s35) (s35 _ _ h23) (X53.same s35)) ?_
      walk_at "wh"
      refine br_not (br_T ?_)
      walk_at "wh"
      exact ⟨_, _, _, _, _, _, rfl, (((sK.trans s1).trans s2).trans s3).trans s35⟩
    · rintro σ K0 ⟨y13, y14, y15, y16, y17, y18, rfl, sK⟩
      have hlsK : rm pl K0 ls = some (.lst [.ref l, .ref w1, .ref w2, .ref w3]) := Same.rm sK _ _ hls
      have X3K := X3.same (Same.rm sK)
      have ok3 : ∀ f ∈ FS.take 4 ++ [Fd.more 1 0], f.Ok := fun f hf => (M1 f hf).1
      have O3 : OkB n m (FS.take 4 ++ [Fd.more 1 0]) := ⟨⟨on, om⟩, l3.2, l3.1⟩
      walk_at "wh"
      refine ixL_rd (v := .ref w3) (rm_same pl K0 _ _ hlsK) rfl ?_
      walk_at "wh"
      refine newT_rd (fun b1 K1 f1 s1 h1 => ?_)
      have X3a := X3K.same (Same.rm s1)
      walk_at "wh"
      refine rises_rd ((X3a.same (rm_same pl K1)).bat h1 ok3) O3 (fun K2 s2 => ?_)
      rw [riseA_T (fun f hf => plain_rise (M1 f hf).2 (M1 f hf).1)]
      walk_at "wh"
      refine br_not (br_T ?_)
      have sK2 := s1.trans s2
      have X3b := X3a.same (Same.rm s2)
      have hls2 : rm pl K2 ls = some (.lst [.ref l, .ref w1, .ref w2, .ref w3]) := Same.rm sK2 _ _ hlsK
      walk_at "wh"
      refine ixL_rd (v := .ref w3) (rm_same pl K2 _ _ hls2) rfl ?_
      walk_at "wh"
      refine lenL_rd (rm_same pl K2 _ _ X3b.1) ?_
      rw [List.length_map, X3b.2.1]
      walk_at "wh"
      refine draw_rd (LA.same (sK.trans sK2)) (by omega) (by omega) (by omega) (fun dk K3 dk0 dk1 c3 L3 => ?_)
      obtain ⟨kk, rfl⟩ : ∃ kk : Nat, dk = kk := ⟨dk.toNat, by omega⟩
      have X3d := X3b.same (Chg.rm c3)
      have hls3 : K3 ls = some (.lst [.ref l, .ref w1, .ref w2, .ref w3]) := rm_same pl K3 _ _ (Chg.rm c3 _ _ hls2)
      obtain ⟨fk, efk⟩ : ∃ fk, (FS.take 4 ++ [Fd.more 1 0])[kk]? = some fk := ⟨_, List.getElem?_eq_getElem (by omega)⟩
      have mk := M1 fk (List.mem_of_getElem? efk)
      have rk : fk.Rise n m := plain_rise mk.2 mk.1
      walk_at "wh"
      refine range_rd (by decide) (by decide) (by omega) (by omega) ?_
      rw [show ((n : Int) + 1 - 0).toNat = n + 1 by omega]
      refine comp_I (n := n + 1) Wk.range (by rw [sizeLine_eq]; omega) (fun i => .int (fk.won i y)) (fun _ => true) (fun j σ => ∃ t : Option V, σ = [t, some (.int n), some (.int m), some (.ref ls), some (.int kk), some (.int y)]) ⟨none, rfl⟩ ?_ ?_
      · rintro j v σ K4 R S hj s4' rfl ⟨t', rfl⟩ k' _
        have hj : j < n + 1 := hj
        walk_at "wh"
        refine br_T ?_
        walk_at "wh"
        refine ixL_rd (v := .ref w3) (s4' _ _ hls3) rfl ?_
        walk_at "wh"
        refine newT_rd (fun b2 K5 f5' s5' h5' => ?_)
        walk_at "wh"
        rw [show (0 : Int) + (j : Int) = ((j : Nat) : Int) by omega]
        refine pay_rd (((X3d.same (rm_same pl K3)).same (s4'.trans s5')).bat h5' ok3) O3 efk (show j ≤ n by omega) (show y ≤ m by omega) (fun K6 s6' => ?_)
        walk_at "wh"
        exact k' rfl _ _ (s5'.trans s6') ⟨_, rfl⟩
      intro wn K4 f4' s4' h4'
      rw [filter_T] at h4'
      have h4' : K4 wn = some (.lst (((List.range (n + 1)).map fun i => fk.won i y).map V.int)) := by rw [h4', List.map_map]; rfl
      walk_at "wh"
      refine so_rd (SqL.of h4') (by rw [List.length_map, List.length_range]; omega) (fun so K5 ms f5' s5' pm sm h5' => ?_)
      have e := sorted_one pm sm (mono_sorted (f := fun i => fk.won i y) (n := n) fun i hi => (rk i y (by omega) (by omega)).1 hi)
      walk_at "wh"
      refine eqO_rd (EqR.intL (SqL.of (s5' _ _ h4')) (SqL.of h5')) ?_
      walk_at "wh"
      refine br_not (br_dT e.symm ?_)
      walk_at "wh"
      exact ⟨_, _, _, _, _, _, _, _, _, _, _, _, _, _, _, _, _, _, rfl, ((((s3I.trans sK).trans sK2).chg fpl c3).trans s4').trans s5'⟩
  · rintro σ H4 ⟨_, _, _, _, _, _, _, _, _, _, _, _, _, _, _, _, _, _, rfl, _⟩
    exact k H4
-- @@split
end
theorem all_mk {l : PySem.W.OpenLaw} {w : World} {K : PySem.W.Frag} {h : Heap} {mg : Str → Option Value} {fa : Addr} (X : K.In h) (G : h.Ns mainGlobals mg) (hfa : mg "law" = some (.ref fa))
    {tk_MOST_HOSTS : Tok} {tk_MOST_FIELDS : Tok} {f_is_whole : Addr} {od_is_whole an_is_whole : Option Addr} {sl_is_whole : Array (Option Value)} {oc_is_whole kV_is_whole dc_is_whole pm_is_whole cd_is_whole ct_is_whole : Value} {f_is_from : Addr} {od_is_from an_is_from : Option Addr} {sl_is_from : Array (Option Value)} {oc_is_from kV_is_from dc_is_from pm_is_from cd_is_from ct_is_from : Value} {f_is_between : Addr} {od_is_between an_is_between : Option Addr} {sl_is_between : Array (Option Value)} {oc_is_between kV_is_between dc_is_between pm_is_between cd_is_between ct_is_between : Value} {f_are_hosts : Addr} {od_are_hosts an_are_hosts : Option Addr} {sl_are_hosts : Array (Option Value)} {oc_are_hosts kV_are_hosts dc_are_hosts pm_are_hosts cd_are_hosts ct_are_hosts : Value} {f_has_size : Addr} {od_has_size an_has_size : Option Addr} {sl_has_size : Array (Option Value)} {oc_has_size kV_has_size dc_has_size pm_has_size cd_has_size ct_has_size : Value} {f_is_table_row : Addr} {od_is_table_row an_is_table_row : Option Addr} {sl_is_table_row : Array (Option Value)} {oc_is_table_row kV_is_table_row dc_is_table_row pm_is_table_row cd_is_table_row ct_is_table_row : Value} {f_is_table : Addr} {od_is_table an_is_table : Option Addr} {sl_is_table : Array (Option Value)} {oc_is_table kV_is_table dc_is_table pm_is_table cd_is_table ct_is_table : Value} {f_is_field : Addr} {od_is_field an_is_field : Option Addr} {sl_is_field : Array (Option Value)} {oc_is_field kV_is_field dc_is_field pm_is_field cd_is_field ct_is_field : Value} {f_look_battle : Addr} {od_look_battle an_look_battle : Option Addr} {sl_look_battle : Array (Option Value)} {oc_look_battle kV_look_battle dc_look_battle pm_look_battle cd_look_battle ct_look_battle : Value} {f_won : Addr} {od_won an_won : Option Addr} {sl_won : Array (Option Value)} {oc_won kV_won dc_won pm_won cd_won ct_won : Value} {f_pay : Addr} {od_pay an_pay : Option Addr} {sl_pay : Array (Option Value)} {oc_pay kV_pay dc_pay pm_pay cd_pay ct_pay : Value} {f_field_rises : Addr} {od_field_rises an_field_rises : Option Addr} {sl_field_rises : Array (Option Value)} {oc_field_rises kV_field_rises dc_field_rises pm_field_rises cd_field_rises ct_field_rises : Value} {f_rises : Addr} {od_rises an_rises : Option Addr} {sl_rises : Array (Option Value)} {oc_rises kV_rises dc_rises pm_rises cd_rises ct_rises : Value} {f__law_mix : Addr} {od__law_mix an__law_mix : Option Addr} {sl__law_mix : Array (Option Value)} {oc__law_mix kV__law_mix dc__law_mix pm__law_mix cd__law_mix ct__law_mix : Value} {f__law_cell_at : Addr} {od__law_cell_at an__law_cell_at : Option Addr} {sl__law_cell_at : Array (Option Value)} {oc__law_cell_at kV__law_cell_at dc__law_cell_at pm__law_cell_at cd__law_cell_at ct__law_cell_at : Value} {f__law_left : Addr} {od__law_left an__law_left : Option Addr} {sl__law_left : Array (Option Value)} {oc__law_left kV__law_left dc__law_left pm__law_left cd__law_left ct__law_left : Value} {f__law_draw : Addr} {od__law_draw an__law_draw : Option Addr} {sl__law_draw : Array (Option Value)} {oc__law_draw kV__law_draw dc__law_draw pm__law_draw cd__law_draw ct__law_draw : Value} {f__law_some : Addr} {od__law_some an__law_some : Option Addr} {sl__law_some : Array (Option Value)} {oc__law_some kV__law_some dc__law_some pm__law_some cd__law_some ct__law_some : Value} {f__law_rule : Addr} {od__law_rule an__law_rule : Option Addr} {sl__law_rule : Array (Option Value)} {oc__law_rule kV__law_rule dc__law_rule pm__law_rule cd__law_rule ct__law_rule : Value} {f__law_battle : Addr} {od__law_battle an__law_battle : Option Addr} {sl__law_battle : Array (Option Value)} {oc__law_battle kV__law_battle dc__law_battle pm__law_battle cd__law_battle ct__law_battle : Value} {f__law_deep : Addr} {od__law_deep an__law_deep : Option Addr} {sl__law_deep : Array (Option Value)} {oc__law_deep kV__law_deep dc__law_deep pm__law_deep cd__law_deep ct__law_deep : Value} {f__law_paid : Addr} {od__law_paid an__law_paid : Option Addr} {sl__law_paid : Array (Option Value)} {oc__law_paid kV__law_paid dc__law_paid pm__law_paid cd__law_paid ct__law_paid : Value} {f__law_rises : Addr} {od__law_rises an__law_rises : Option Addr} {sl__law_rises : Array (Option Value)} {oc__law_rises kV__law_rises dc__law_rises pm__law_rises cd__law_rises ct__law_rises : Value} {f__law_rising : Addr} {od__law_rising an__law_rising : Option Addr} {sl__law_rising : Array (Option Value)} {oc__law_rising kV__law_rising dc__law_rising pm__law_rising cd__law_rising ct__law_rising : Value} {f_law : Addr} {od_law an_law : Option Addr} {sl_law : Array (Option Value)} {oc_law kV_law dc_law pm_law cd_law ct_law : Value}
    (e_MOST_HOSTS : PySem.W.nsIn K mainGlobals "MOST_HOSTS" = some (some (.int 10 tk_MOST_HOSTS)))
    (e_MOST_FIELDS : PySem.W.nsIn K mainGlobals "MOST_FIELDS" = some (some (.int 5 tk_MOST_FIELDS)))
    (a_is_whole : PySem.W.nsIn K mainGlobals "is_whole" = some (some (.ref f_is_whole)))
    (l_is_whole : K.lookup f_is_whole = some ⟨oc_is_whole, od_is_whole, .func (PySem.W.fnOf "is_whole" "is_whole" (defArgs s_is_whole) (defBody s_is_whole) (defScope s_is_whole) .none kV_is_whole dc_is_whole pm_is_whole an_is_whole cd_is_whole ct_is_whole), sl_is_whole⟩)
    (c_is_whole : PySem.W.codeIn K cd_is_whole "is_whole" = true)
    (k_is_whole : PySem.W.keepIn K (.ref f_is_whole) = true)
    (a_is_from : PySem.W.nsIn K mainGlobals "is_from" = some (some (.ref f_is_from)))
    (l_is_from : K.lookup f_is_from = some ⟨oc_is_from, od_is_from, .func (PySem.W.fnOf "is_from" "is_from" (defArgs s_is_from) (defBody s_is_from) (defScope s_is_from) .none kV_is_from dc_is_from pm_is_from an_is_from cd_is_from ct_is_from), sl_is_from⟩)
    (c_is_from : PySem.W.codeIn K cd_is_from "is_from" = true)
    (k_is_from : PySem.W.keepIn K (.ref f_is_from) = true)
    (a_is_between : PySem.W.nsIn K mainGlobals "is_between" = some (some (.ref f_is_between)))
    (l_is_between : K.lookup f_is_between = some ⟨oc_is_between, od_is_between, .func (PySem.W.fnOf "is_between" "is_between" (defArgs s_is_between) (defBody s_is_between) (defScope s_is_between) .none kV_is_between dc_is_between pm_is_between an_is_between cd_is_between ct_is_between), sl_is_between⟩)
    (c_is_between : PySem.W.codeIn K cd_is_between "is_between" = true)
    (k_is_between : PySem.W.keepIn K (.ref f_is_between) = true)
    (a_are_hosts : PySem.W.nsIn K mainGlobals "are_hosts" = some (some (.ref f_are_hosts)))
    (l_are_hosts : K.lookup f_are_hosts = some ⟨oc_are_hosts, od_are_hosts, .func (PySem.W.fnOf "are_hosts" "are_hosts" (defArgs s_are_hosts) (defBody s_are_hosts) (defScope s_are_hosts) .none kV_are_hosts dc_are_hosts pm_are_hosts an_are_hosts cd_are_hosts ct_are_hosts), sl_are_hosts⟩)
    (c_are_hosts : PySem.W.codeIn K cd_are_hosts "are_hosts" = true)
    (k_are_hosts : PySem.W.keepIn K (.ref f_are_hosts) = true)
    (a_has_size : PySem.W.nsIn K mainGlobals "has_size" = some (some (.ref f_has_size)))
    (l_has_size : K.lookup f_has_size = some ⟨oc_has_size, od_has_size, .func (PySem.W.fnOf "has_size" "has_size" (defArgs s_has_size) (defBody s_has_size) (defScope s_has_size) .none kV_has_size dc_has_size pm_has_size an_has_size cd_has_size ct_has_size), sl_has_size⟩)
    (c_has_size : PySem.W.codeIn K cd_has_size "has_size" = true)
    (k_has_size : PySem.W.keepIn K (.ref f_has_size) = true)
    (a_is_table_row : PySem.W.nsIn K mainGlobals "is_table_row" = some (some (.ref f_is_table_row)))
    (l_is_table_row : K.lookup f_is_table_row = some ⟨oc_is_table_row, od_is_table_row, .func (PySem.W.fnOf "is_table_row" "is_table_row" (defArgs s_is_table_row) (defBody s_is_table_row) (defScope s_is_table_row) .none kV_is_table_row dc_is_table_row pm_is_table_row an_is_table_row cd_is_table_row ct_is_table_row), sl_is_table_row⟩)
    (c_is_table_row : PySem.W.codeIn K cd_is_table_row "is_table_row" = true)
    (k_is_table_row : PySem.W.keepIn K (.ref f_is_table_row) = true)
    (a_is_table : PySem.W.nsIn K mainGlobals "is_table" = some (some (.ref f_is_table)))
    (l_is_table : K.lookup f_is_table = some ⟨oc_is_table, od_is_table, .func (PySem.W.fnOf "is_table" "is_table" (defArgs s_is_table) (defBody s_is_table) (defScope s_is_table) .none kV_is_table dc_is_table pm_is_table an_is_table cd_is_table ct_is_table), sl_is_table⟩)
    (c_is_table : PySem.W.codeIn K cd_is_table "is_table" = true)
    (k_is_table : PySem.W.keepIn K (.ref f_is_table) = true)
    (a_is_field : PySem.W.nsIn K mainGlobals "is_field" = some (some (.ref f_is_field)))
    (l_is_field : K.lookup f_is_field = some ⟨oc_is_field, od_is_field, .func (PySem.W.fnOf "is_field" "is_field" (defArgs s_is_field) (defBody s_is_field) (defScope s_is_field) .none kV_is_field dc_is_field pm_is_field an_is_field cd_is_field ct_is_field), sl_is_field⟩)
    (c_is_field : PySem.W.codeIn K cd_is_field "is_field" = true)
    (k_is_field : PySem.W.keepIn K (.ref f_is_field) = true)
    (a_look_battle : PySem.W.nsIn K mainGlobals "look_battle" = some (some (.ref f_look_battle)))
    (l_look_battle : K.lookup f_look_battle = some ⟨oc_look_battle, od_look_battle, .func (PySem.W.fnOf "look_battle" "look_battle" (defArgs s_look_battle) (defBody s_look_battle) (defScope s_look_battle) .none kV_look_battle dc_look_battle pm_look_battle an_look_battle cd_look_battle ct_look_battle), sl_look_battle⟩)
    (c_look_battle : PySem.W.codeIn K cd_look_battle "look_battle" = true)
    (k_look_battle : PySem.W.keepIn K (.ref f_look_battle) = true)
    (a_won : PySem.W.nsIn K mainGlobals "won" = some (some (.ref f_won)))
    (l_won : K.lookup f_won = some ⟨oc_won, od_won, .func (PySem.W.fnOf "won" "won" (defArgs s_won) (defBody s_won) (defScope s_won) .none kV_won dc_won pm_won an_won cd_won ct_won), sl_won⟩)
    (c_won : PySem.W.codeIn K cd_won "won" = true)
    (k_won : PySem.W.keepIn K (.ref f_won) = true)
    (a_pay : PySem.W.nsIn K mainGlobals "pay" = some (some (.ref f_pay)))
    (l_pay : K.lookup f_pay = some ⟨oc_pay, od_pay, .func (PySem.W.fnOf "pay" "pay" (defArgs s_pay) (defBody s_pay) (defScope s_pay) .none kV_pay dc_pay pm_pay an_pay cd_pay ct_pay), sl_pay⟩)
    (c_pay : PySem.W.codeIn K cd_pay "pay" = true)
    (k_pay : PySem.W.keepIn K (.ref f_pay) = true)
    (a_field_rises : PySem.W.nsIn K mainGlobals "field_rises" = some (some (.ref f_field_rises)))
    (l_field_rises : K.lookup f_field_rises = some ⟨oc_field_rises, od_field_rises, .func (PySem.W.fnOf "field_rises" "field_rises" (defArgs s_field_rises) (defBody s_field_rises) (defScope s_field_rises) .none kV_field_rises dc_field_rises pm_field_rises an_field_rises cd_field_rises ct_field_rises), sl_field_rises⟩)
    (c_field_rises : PySem.W.codeIn K cd_field_rises "field_rises" = true)
    (k_field_rises : PySem.W.keepIn K (.ref f_field_rises) = true)
    (a_rises : PySem.W.nsIn K mainGlobals "rises" = some (some (.ref f_rises)))
    (l_rises : K.lookup f_rises = some ⟨oc_rises, od_rises, .func (PySem.W.fnOf "rises" "rises" (defArgs s_rises) (defBody s_rises) (defScope s_rises) .none kV_rises dc_rises pm_rises an_rises cd_rises ct_rises), sl_rises⟩)
    (c_rises : PySem.W.codeIn K cd_rises "rises" = true)
    (k_rises : PySem.W.keepIn K (.ref f_rises) = true)
    (a__law_mix : PySem.W.nsIn K mainGlobals "_law_mix" = some (some (.ref f__law_mix)))
    (l__law_mix : K.lookup f__law_mix = some ⟨oc__law_mix, od__law_mix, .func (PySem.W.fnOf "_law_mix" "_law_mix" (defArgs s__law_mix) (defBody s__law_mix) (defScope s__law_mix) .none kV__law_mix dc__law_mix pm__law_mix an__law_mix cd__law_mix ct__law_mix), sl__law_mix⟩)
    (c__law_mix : PySem.W.codeIn K cd__law_mix "_law_mix" = true)
    (k__law_mix : PySem.W.keepIn K (.ref f__law_mix) = true)
    (a__law_cell_at : PySem.W.nsIn K mainGlobals "_law_cell_at" = some (some (.ref f__law_cell_at)))
    (l__law_cell_at : K.lookup f__law_cell_at = some ⟨oc__law_cell_at, od__law_cell_at, .func (PySem.W.fnOf "_law_cell_at" "_law_cell_at" (defArgs s__law_cell_at) (defBody s__law_cell_at) (defScope s__law_cell_at) .none kV__law_cell_at dc__law_cell_at pm__law_cell_at an__law_cell_at cd__law_cell_at ct__law_cell_at), sl__law_cell_at⟩)
    (c__law_cell_at : PySem.W.codeIn K cd__law_cell_at "_law_cell_at" = true)
    (k__law_cell_at : PySem.W.keepIn K (.ref f__law_cell_at) = true)
    (a__law_left : PySem.W.nsIn K mainGlobals "_law_left" = some (some (.ref f__law_left)))
    (l__law_left : K.lookup f__law_left = some ⟨oc__law_left, od__law_left, .func (PySem.W.fnOf "_law_left" "_law_left" (defArgs s__law_left) (defBody s__law_left) (defScope s__law_left) .none kV__law_left dc__law_left pm__law_left an__law_left cd__law_left ct__law_left), sl__law_left⟩)
    (c__law_left : PySem.W.codeIn K cd__law_left "_law_left" = true)
    (k__law_left : PySem.W.keepIn K (.ref f__law_left) = true)
    (a__law_draw : PySem.W.nsIn K mainGlobals "_law_draw" = some (some (.ref f__law_draw)))
    (l__law_draw : K.lookup f__law_draw = some ⟨oc__law_draw, od__law_draw, .func (PySem.W.fnOf "_law_draw" "_law_draw" (defArgs s__law_draw) (defBody s__law_draw) (defScope s__law_draw) .none kV__law_draw dc__law_draw pm__law_draw an__law_draw cd__law_draw ct__law_draw), sl__law_draw⟩)
    (c__law_draw : PySem.W.codeIn K cd__law_draw "_law_draw" = true)
    (k__law_draw : PySem.W.keepIn K (.ref f__law_draw) = true)
    (a__law_some : PySem.W.nsIn K mainGlobals "_law_some" = some (some (.ref f__law_some)))
    (l__law_some : K.lookup f__law_some = some ⟨oc__law_some, od__law_some, .func (PySem.W.fnOf "_law_some" "_law_some" (defArgs s__law_some) (defBody s__law_some) (defScope s__law_some) .none kV__law_some dc__law_some pm__law_some an__law_some cd__law_some ct__law_some), sl__law_some⟩)
    (c__law_some : PySem.W.codeIn K cd__law_some "_law_some" = true)
    (k__law_some : PySem.W.keepIn K (.ref f__law_some) = true)
    (a__law_rule : PySem.W.nsIn K mainGlobals "_law_rule" = some (some (.ref f__law_rule)))
    (l__law_rule : K.lookup f__law_rule = some ⟨oc__law_rule, od__law_rule, .func (PySem.W.fnOf "_law_rule" "_law_rule" (defArgs s__law_rule) (defBody s__law_rule) (defScope s__law_rule) .none kV__law_rule dc__law_rule pm__law_rule an__law_rule cd__law_rule ct__law_rule), sl__law_rule⟩)
    (c__law_rule : PySem.W.codeIn K cd__law_rule "_law_rule" = true)
    (k__law_rule : PySem.W.keepIn K (.ref f__law_rule) = true)
    (a__law_battle : PySem.W.nsIn K mainGlobals "_law_battle" = some (some (.ref f__law_battle)))
    (l__law_battle : K.lookup f__law_battle = some ⟨oc__law_battle, od__law_battle, .func (PySem.W.fnOf "_law_battle" "_law_battle" (defArgs s__law_battle) (defBody s__law_battle) (defScope s__law_battle) .none kV__law_battle dc__law_battle pm__law_battle an__law_battle cd__law_battle ct__law_battle), sl__law_battle⟩)
    (c__law_battle : PySem.W.codeIn K cd__law_battle "_law_battle" = true)
    (k__law_battle : PySem.W.keepIn K (.ref f__law_battle) = true)
    (a__law_deep : PySem.W.nsIn K mainGlobals "_law_deep" = some (some (.ref f__law_deep)))
    (l__law_deep : K.lookup f__law_deep = some ⟨oc__law_deep, od__law_deep, .func (PySem.W.fnOf "_law_deep" "_law_deep" (defArgs s__law_deep) (defBody s__law_deep) (defScope s__law_deep) .none kV__law_deep dc__law_deep pm__law_deep an__law_deep cd__law_deep ct__law_deep), sl__law_deep⟩)
    (c__law_deep : PySem.W.codeIn K cd__law_deep "_law_deep" = true)
    (k__law_deep : PySem.W.keepIn K (.ref f__law_deep) = true)
    (a__law_paid : PySem.W.nsIn K mainGlobals "_law_paid" = some (some (.ref f__law_paid)))
    (l__law_paid : K.lookup f__law_paid = some ⟨oc__law_paid, od__law_paid, .func (PySem.W.fnOf "_law_paid" "_law_paid" (defArgs s__law_paid) (defBody s__law_paid) (defScope s__law_paid) .none kV__law_paid dc__law_paid pm__law_paid an__law_paid cd__law_paid ct__law_paid), sl__law_paid⟩)
    (c__law_paid : PySem.W.codeIn K cd__law_paid "_law_paid" = true)
    (k__law_paid : PySem.W.keepIn K (.ref f__law_paid) = true)
    (a__law_rises : PySem.W.nsIn K mainGlobals "_law_rises" = some (some (.ref f__law_rises)))
    (l__law_rises : K.lookup f__law_rises = some ⟨oc__law_rises, od__law_rises, .func (PySem.W.fnOf "_law_rises" "_law_rises" (defArgs s__law_rises) (defBody s__law_rises) (defScope s__law_rises) .none kV__law_rises dc__law_rises pm__law_rises an__law_rises cd__law_rises ct__law_rises), sl__law_rises⟩)
    (c__law_rises : PySem.W.codeIn K cd__law_rises "_law_rises" = true)
    (k__law_rises : PySem.W.keepIn K (.ref f__law_rises) = true)
    (a__law_rising : PySem.W.nsIn K mainGlobals "_law_rising" = some (some (.ref f__law_rising)))
    (l__law_rising : K.lookup f__law_rising = some ⟨oc__law_rising, od__law_rising, .func (PySem.W.fnOf "_law_rising" "_law_rising" (defArgs s__law_rising) (defBody s__law_rising) (defScope s__law_rising) .none kV__law_rising dc__law_rising pm__law_rising an__law_rising cd__law_rising ct__law_rising), sl__law_rising⟩)
    (c__law_rising : PySem.W.codeIn K cd__law_rising "_law_rising" = true)
    (k__law_rising : PySem.W.keepIn K (.ref f__law_rising) = true)
    (a_law : PySem.W.nsIn K mainGlobals "law" = some (some (.ref f_law)))
    (l_law : K.lookup f_law = some ⟨oc_law, od_law, .func (PySem.W.fnOf "law" "law" (defArgs s_law) (defBody s_law) (defScope s_law) .none kV_law dc_law pm_law an_law cd_law ct_law), sl_law⟩)
    (c_law : PySem.W.codeIn K cd_law "law" = true)
    (k_law : PySem.W.keepIn K (.ref f_law) = true)
    (z_all : PySem.W.nsIn K mainGlobals "all" = some none)
    (z_bool : PySem.W.nsIn K mainGlobals "bool" = some none)
    (z_enumerate : PySem.W.nsIn K mainGlobals "enumerate" = some none)
    (z_int : PySem.W.nsIn K mainGlobals "int" = some none)
    (z_isinstance : PySem.W.nsIn K mainGlobals "isinstance" = some none)
    (z_len : PySem.W.nsIn K mainGlobals "len" = some none)
    (z_list : PySem.W.nsIn K mainGlobals "list" = some none)
    (z_range : PySem.W.nsIn K mainGlobals "range" = some none)
    (z_sorted : PySem.W.nsIn K mainGlobals "sorted" = some none)
    (z_sum : PySem.W.nsIn K mainGlobals "sum" = some none)
    (z_tuple : PySem.W.nsIn K mainGlobals "tuple" = some none) :
    ∃ fd : FuncData, (∀ (s : Shared) (v : Value), BindsTo s fd ⟨[v], []⟩ [("_law_script", v)]) ∧ ∀ base : Heap, K.In base → base.Ns mainGlobals mg → FnOk l.prog w K mg base CX0 9 fa fd ["_law_script"] (spLaw K) := by
  have e := hfa.symm.trans (PySem.W.mg_of X G a_law)
  cases e
  have N : Nm mg := ⟨PySem.W.mg_none_of X G z_all, PySem.W.mg_none_of X G z_bool, PySem.W.mg_none_of X G z_enumerate, PySem.W.mg_none_of X G z_int, PySem.W.mg_none_of X G z_isinstance, PySem.W.mg_none_of X G z_len, PySem.W.mg_none_of X G z_list, PySem.W.mg_none_of X G z_range, PySem.W.mg_none_of X G z_sorted, PySem.W.mg_none_of X G z_sum, PySem.W.mg_none_of X G z_tuple⟩
  have C_MOST_HOSTS := PySem.W.mg_of X G e_MOST_HOSTS
  have C_MOST_FIELDS := PySem.W.mg_of X G e_MOST_FIELDS
  have F_is_whole := fun_mk (st := s_is_whole) l_is_whole c_is_whole k_is_whole
  have F_is_from := fun_mk (st := s_is_from) l_is_from c_is_from k_is_from
  have F_is_between := fun_mk (st := s_is_between) l_is_between c_is_between k_is_between
  have F_are_hosts := fun_mk (st := s_are_hosts) l_are_hosts c_are_hosts k_are_hosts
  have F_has_size := fun_mk (st := s_has_size) l_has_size c_has_size k_has_size
  have F_is_table_row := fun_mk (st := s_is_table_row) l_is_table_row c_is_table_row k_is_table_row
  have F_is_table := fun_mk (st := s_is_table) l_is_table c_is_table k_is_table
  have F_is_field := fun_mk (st := s_is_field) l_is_field c_is_field k_is_field
  have F_look_battle := fun_mk (st := s_look_battle) l_look_battle c_look_battle k_look_battle
  have F_won := fun_mk (st := s_won) l_won c_won k_won
  have F_pay := fun_mk (st := s_pay) l_pay c_pay k_pay
  have F_field_rises := fun_mk (st := s_field_rises) l_field_rises c_field_rises k_field_rises
  have F_rises := fun_mk (st := s_rises) l_rises c_rises k_rises
  have F__law_mix := fun_mk (st := s__law_mix) l__law_mix c__law_mix k__law_mix
  have F__law_cell_at := fun_mk (st := s__law_cell_at) l__law_cell_at c__law_cell_at k__law_cell_at
  have F__law_left := fun_mk (st := s__law_left) l__law_left c__law_left k__law_left
  have F__law_draw := fun_mk (st := s__law_draw) l__law_draw c__law_draw k__law_draw
  have F__law_some := fun_mk (st := s__law_some) l__law_some c__law_some k__law_some
  have F__law_rule := fun_mk (st := s__law_rule) l__law_rule c__law_rule k__law_rule
  have F__law_battle := fun_mk (st := s__law_battle) l__law_battle c__law_battle k__law_battle
  have F__law_deep := fun_mk (st := s__law_deep) l__law_deep c__law_deep k__law_deep
  have F__law_paid := fun_mk (st := s__law_paid) l__law_paid c__law_paid k__law_paid
  have F__law_rises := fun_mk (st := s__law_rises) l__law_rises c__law_rises k__law_rises
  have F__law_rising := fun_mk (st := s__law_rising) l__law_rising c__law_rising k__law_rising
  have F_law := fun_mk (st := s_law) l_law c_law k_law
  refine ⟨PySem.W.fnOf "law" "law" (defArgs s_law) (defBody s_law) (defScope s_law) .none kV_law dc_law pm_law an_law cd_law ct_law, fun s v => .of_eq rfl, fun base XB GB => ?_⟩
  have D_is_whole : Def l.prog w K mg base CX0 1 "is_whole" ["thing"] sp_is_whole := ⟨⟨_, _, ok_is_whole (P := l.prog) (w := w) (base := base) F_is_whole N , PySem.W.mg_of X G a_is_whole, k_is_whole, F_is_whole.binds fun _ _ _ _ _ _ us hl => match us, hl with | [_], _ => rfl⟩⟩
  have D_is_from : Def l.prog w K mg base CX0 2 "is_from" ["thing", "least"] sp_is_from := ⟨⟨_, _, ok_is_from (P := l.prog) (w := w) (base := base) F_is_from N D_is_whole, PySem.W.mg_of X G a_is_from, k_is_from, F_is_from.binds fun _ _ _ _ _ _ us hl => match us, hl with | [_, _], _ => rfl⟩⟩
  have D_is_between : Def l.prog w K mg base CX0 3 "is_between" ["thing", "least", "most"] sp_is_between := ⟨⟨_, _, ok_is_between (P := l.prog) (w := w) (base := base) F_is_between N D_is_from, PySem.W.mg_of X G a_is_between, k_is_between, F_is_between.binds fun _ _ _ _ _ _ us hl => match us, hl with | [_, _, _], _ => rfl⟩⟩
  have D_are_hosts : Def l.prog w K mg base CX0 4 "are_hosts" ["first", "second"] sp_are_hosts := ⟨⟨_, _, ok_are_hosts (P := l.prog) (w := w) (base := base) F_are_hosts N C_MOST_HOSTS D_is_between, PySem.W.mg_of X G a_are_hosts, k_are_hosts, F_are_hosts.binds fun _ _ _ _ _ _ us hl => match us, hl with | [_, _], _ => rfl⟩⟩
  have D_has_size : Def l.prog w K mg base CX0 5 "has_size" ["battle"] sp_has_size := ⟨⟨_, _, ok_has_size (P := l.prog) (w := w) (base := base) F_has_size N C_MOST_FIELDS D_are_hosts, PySem.W.mg_of X G a_has_size, k_has_size, F_has_size.binds fun _ _ _ _ _ _ us hl => match us, hl with | [_], _ => rfl⟩⟩
  have D_is_table_row : Def l.prog w K mg base CX0 2 "is_table_row" ["many_numbers", "row"] sp_is_table_row := ⟨⟨_, _, ok_is_table_row (P := l.prog) (w := w) (base := base) F_is_table_row N D_is_whole, PySem.W.mg_of X G a_is_table_row, k_is_table_row, F_is_table_row.binds fun _ _ _ _ _ _ us hl => match us, hl with | [_, _], _ => rfl⟩⟩
  have D_is_table : Def l.prog w K mg base CX0 3 "is_table" ["many_rows", "many_numbers", "rows"] sp_is_table := ⟨⟨_, _, ok_is_table (P := l.prog) (w := w) (base := base) F_is_table N D_is_table_row, PySem.W.mg_of X G a_is_table, k_is_table, F_is_table.binds fun _ _ _ _ _ _ us hl => match us, hl with | [_, _, _], _ => rfl⟩⟩
  have D_is_field : Def l.prog w K mg base CX0 4 "is_field" ["first", "second", "field"] sp_is_field := ⟨⟨_, _, ok_is_field (P := l.prog) (w := w) (base := base) F_is_field N D_is_between D_is_from D_is_table D_is_whole, PySem.W.mg_of X G a_is_field, k_is_field, F_is_field.binds fun _ _ _ _ _ _ us hl => match us, hl with | [_, _, _], _ => rfl⟩⟩
  have D_look_battle : Def l.prog w K mg base CX0 6 "look_battle" ["battle"] sp_look_battle := ⟨⟨_, _, ok_look_battle (P := l.prog) (w := w) (base := base) F_look_battle N D_has_size D_is_field, PySem.W.mg_of X G a_look_battle, k_look_battle, F_look_battle.binds fun _ _ _ _ _ _ us hl => match us, hl with | [_], _ => rfl⟩⟩
  have D_won : Def l.prog w K mg base CX0 1 "won" ["field", "x", "y"] sp_won := ⟨⟨_, _, ok_won (P := l.prog) (w := w) (base := base) F_won N , PySem.W.mg_of X G a_won, k_won, F_won.binds fun _ _ _ _ _ _ us hl => match us, hl with | [_, _, _], _ => rfl⟩⟩
  have D_pay : Def l.prog w K mg base CX0 7 "pay" ["battle", "field", "x", "y"] sp_pay := ⟨⟨_, _, ok_pay (P := l.prog) (w := w) (base := base) F_pay N D_is_between D_look_battle D_won, PySem.W.mg_of X G a_pay, k_pay, F_pay.binds fun _ _ _ _ _ _ us hl => match us, hl with | [_, _, _, _], _ => rfl⟩⟩
  have D_field_rises : Def l.prog w K mg base CX0 2 "field_rises" ["first", "second", "field"] sp_field_rises := ⟨⟨_, _, ok_field_rises (P := l.prog) (w := w) (base := base) F_field_rises N D_won, PySem.W.mg_of X G a_field_rises, k_field_rises, F_field_rises.binds fun _ _ _ _ _ _ us hl => match us, hl with | [_, _, _], _ => rfl⟩⟩
  have D_rises : Def l.prog w K mg base CX0 7 "rises" ["battle"] sp_rises := ⟨⟨_, _, ok_rises (P := l.prog) (w := w) (base := base) F_rises N D_field_rises D_look_battle, PySem.W.mg_of X G a_rises, k_rises, F_rises.binds fun _ _ _ _ _ _ us hl => match us, hl with | [_], _ => rfl⟩⟩
  have D__law_mix : Def l.prog w K mg base CX0 1 "_law_mix" ["_law_number", "_law_k"] sp__law_mix := ⟨⟨_, _, ok__law_mix (P := l.prog) (w := w) (base := base) F__law_mix N , PySem.W.mg_of X G a__law_mix, k__law_mix, F__law_mix.binds fun _ _ _ _ _ _ us hl => match us, hl with | [_, _], _ => rfl⟩⟩
  have D__law_cell_at : Def l.prog w K mg base CX0 1 "_law_cell_at" ["_law_script", "_law_k"] sp__law_cell_at := ⟨⟨_, _, ok__law_cell_at (P := l.prog) (w := w) (base := base) F__law_cell_at N , PySem.W.mg_of X G a__law_cell_at, k__law_cell_at, F__law_cell_at.binds fun _ _ _ _ _ _ us hl => match us, hl with | [_, _], _ => rfl⟩⟩
  have D__law_left : Def l.prog w K mg base CX0 2 "_law_left" ["_law_script", "_law_k"] sp__law_left := ⟨⟨_, _, ok__law_left (P := l.prog) (w := w) (base := base) F__law_left N D__law_cell_at, PySem.W.mg_of X G a__law_left, k__law_left, F__law_left.binds fun _ _ _ _ _ _ us hl => match us, hl with | [_, _], _ => rfl⟩⟩
  have D__law_draw : Def l.prog w K mg base CX0 2 "_law_draw" ["_law_left_here", "_law_base"] sp__law_draw := ⟨⟨_, _, ok__law_draw (P := l.prog) (w := w) (base := base) F__law_draw N D__law_mix, PySem.W.mg_of X G a__law_draw, k__law_draw, F__law_draw.binds fun _ _ _ _ _ _ us hl => match us, hl with | [_, _], _ => rfl⟩⟩
  have D__law_some : Def l.prog w K mg base CX0 3 "_law_some" ["_law_left_here"] sp__law_some := ⟨⟨_, _, ok__law_some (P := l.prog) (w := w) (base := base) F__law_some N D__law_draw, PySem.W.mg_of X G a__law_some, k__law_some, F__law_some.binds fun _ _ _ _ _ _ us hl => match us, hl with | [_], _ => rfl⟩⟩
  have D__law_rule : Def l.prog w K mg base CX0 4 "_law_rule" ["_law_left_here", "_law_first", "_law_second"] sp__law_rule := ⟨⟨_, _, ok__law_rule (P := l.prog) (w := w) (base := base) F__law_rule N D__law_draw D__law_some, PySem.W.mg_of X G a__law_rule, k__law_rule, F__law_rule.binds fun _ _ _ _ _ _ us hl => match us, hl with | [_, _, _], _ => rfl⟩⟩
  have D__law_battle : Def l.prog w K mg base CX0 5 "_law_battle" ["_law_left_here", "_law_most", "_law_fields"] sp__law_battle := ⟨⟨_, _, ok__law_battle (P := l.prog) (w := w) (base := base) F__law_battle N D__law_draw D__law_rule, PySem.W.mg_of X G a__law_battle, k__law_battle, F__law_battle.binds fun _ _ _ _ _ _ us hl => match us, hl with | [_, _, _], _ => rfl⟩⟩
  have D__law_deep : Def l.prog w K mg base CX0 7 "_law_deep" ["_law_thing"] sp__law_deep := ⟨⟨_, _, ok__law_deep (P := l.prog) (w := w) (base := base) F__law_deep N  (PySem.W.mg_of X G a__law_deep) k__law_deep (F__law_deep.binds fun _ _ _ _ _ _ us hl => match us, hl with | [_], _ => rfl), PySem.W.mg_of X G a__law_deep, k__law_deep, F__law_deep.binds fun _ _ _ _ _ _ us hl => match us, hl with | [_], _ => rfl⟩⟩
  have D__law_paid : Def l.prog w K mg base CX0 1 "_law_paid" ["_law_field", "_law_x", "_law_y"] sp__law_paid := ⟨⟨_, _, ok__law_paid (P := l.prog) (w := w) (base := base) F__law_paid N , PySem.W.mg_of X G a__law_paid, k__law_paid, F__law_paid.binds fun _ _ _ _ _ _ us hl => match us, hl with | [_, _, _], _ => rfl⟩⟩
  have D__law_rises : Def l.prog w K mg base CX0 2 "_law_rises" ["_law_battle_here"] sp__law_rises := ⟨⟨_, _, ok__law_rises (P := l.prog) (w := w) (base := base) F__law_rises N D__law_paid, PySem.W.mg_of X G a__law_rises, k__law_rises, F__law_rises.binds fun _ _ _ _ _ _ us hl => match us, hl with | [_], _ => rfl⟩⟩
  have D__law_rising : Def l.prog w K mg base CX0 3 "_law_rising" ["_law_left_here", "_law_first", "_law_second"] sp__law_rising := ⟨⟨_, _, ok__law_rising (P := l.prog) (w := w) (base := base) F__law_rising N D__law_draw, PySem.W.mg_of X G a__law_rising, k__law_rising, F__law_rising.binds fun _ _ _ _ _ _ us hl => match us, hl with | [_, _, _], _ => rfl⟩⟩
  exact ok_law (P := l.prog) (w := w) (base := base) F_law N D__law_battle D__law_deep D__law_draw D__law_left D__law_rises D__law_rising D_pay D_rises
theorem walk {l : PySem.W.OpenLaw} {q : Program} {loose : List Str} {XP : (Str → Option Value) → Heap → Prop} {YP : World → Heap → Prop} {d : DefRec} {K : Params → PySem.W.Frag} (hn : l.most = some 63) (hdf : d.params.defaults = [])
    (hY : ∀ (w : World) (h : Heap), YP w h → (K w.params).In h)
    (F : ∀ (w : World) (mg : Str → Option Value) (fa : Addr) (h : Heap), (K w.params).In h → h.Ns mainGlobals mg → mg d.name = some (.ref fa) →
      ∃ fd : FuncData, (∀ (s : Shared) (u : Value), BindsTo s fd ⟨[u], []⟩ [("_law_script", u)]) ∧ ∀ base : Heap, (K w.params).In base → base.Ns mainGlobals mg → FnOk l.prog w (K w.params) mg base CX0 9 fa fd ["_law_script"] (spLaw (K w.params))) :
    PySem.W.WalkO q loose XP YP l.row.toRowW d [] (fun f vs => PySem.call f vs) :=
  L2.walk_of (n := 63) (k := 9) (x := "_law_script") (CX := fun _ => CX0) (sp := fun w => spLaw (K w.params)) hn (by decide) hdf ⟨rfl, by decide, by decide⟩ hY F (fun _ _ a ns hl _ hS => ⟨a, ns, rfl, hS, hl, fun _ => rfl⟩) fun _ _ _ _ _ z => z
end G
open PySem PySem.W PyProof.Rows
set_option maxRecDepth 100000 in
set_option maxHeartbeats 0 in
theorem PySem.Challenge.cw_hostfields_k07_whole_more_hosts_help_holds : PySem.Challenge.rw_hostfields_k07_whole_more_hosts_help.Holds := by
  w_on; o_law; k_head; (case hw => w_witness2)
  k_fill
  refine G.walk (l := PySem.Challenge.rw_hostfields_k07_whole_more_hosts_help) rfl rfl (fun w h Y => PySem.W.kIn_of Y) ?F
  case F =>
    intro w mg fa h KX GG hmg
    refine' G.all_mk KX GG hmg ?e_MOST_HOSTS ?e_MOST_FIELDS ?a_is_whole ?l_is_whole ?c_is_whole ?k_is_whole ?a_is_from ?l_is_from ?c_is_from ?k_is_from ?a_is_between ?l_is_between ?c_is_between ?k_is_between ?a_are_hosts ?l_are_hosts ?c_are_hosts ?k_are_hosts ?a_has_size ?l_has_size ?c_has_size ?k_has_size ?a_is_table_row ?l_is_table_row ?c_is_table_row ?k_is_table_row ?a_is_table ?l_is_table ?c_is_table ?k_is_table ?a_is_field ?l_is_field ?c_is_field ?k_is_field ?a_look_battle ?l_look_battle ?c_look_battle ?k_look_battle ?a_won ?l_won ?c_won ?k_won ?a_pay ?l_pay ?c_pay ?k_pay ?a_field_rises ?l_field_rises ?c_field_rises ?k_field_rises ?a_rises ?l_rises ?c_rises ?k_rises ?a__law_mix ?l__law_mix ?c__law_mix ?k__law_mix ?a__law_cell_at ?l__law_cell_at ?c__law_cell_at ?k__law_cell_at ?a__law_left ?l__law_left ?c__law_left ?k__law_left ?a__law_draw ?l__law_draw ?c__law_draw ?k__law_draw ?a__law_some ?l__law_some ?c__law_some ?k__law_some ?a__law_rule ?l__law_rule ?c__law_rule ?k__law_rule ?a__law_battle ?l__law_battle ?c__law_battle ?k__law_battle ?a__law_deep ?l__law_deep ?c__law_deep ?k__law_deep ?a__law_paid ?l__law_paid ?c__law_paid ?k__law_paid ?a__law_rises ?l__law_rises ?c__law_rises ?k__law_rises ?a__law_rising ?l__law_rising ?c__law_rising ?k__law_rising ?a_law ?l_law ?c_law ?k_law ?z_all ?z_bool ?z_enumerate ?z_int ?z_isinstance ?z_len ?z_list ?z_range ?z_sorted ?z_sum ?z_tuple
    (case e_MOST_HOSTS => k_is)
    (case e_MOST_FIELDS => k_is)
    (case a_is_whole => k_is)
    (case l_is_whole => k_is)
    (case c_is_whole => k_is)
    (case k_is_whole => k_is)
    (case a_is_from => k_is)
    (case l_is_from => k_is)
    (case c_is_from => k_is)
    (case k_is_from => k_is)
    (case a_is_between => k_is)
    (case l_is_between => k_is)
    (case c_is_between => k_is)
    (case k_is_between => k_is)
    (case a_are_hosts => k_is)
    (case l_are_hosts => k_is)
    (case c_are_hosts => k_is)
    (case k_are_hosts => k_is)
    (case a_has_size => k_is)
    (case l_has_size => k_is)
    (case c_has_size => k_is)
    (case k_has_size => k_is)
    (case a_is_table_row => k_is)
    (case l_is_table_row => k_is)
    (case c_is_table_row => k_is)
    (case k_is_table_row => k_is)
    (case a_is_table => k_is)
    (case l_is_table => k_is)
    (case c_is_table => k_is)
    (case k_is_table => k_is)
    (case a_is_field => k_is)
    (case l_is_field => k_is)
    (case c_is_field => k_is)
    (case k_is_field => k_is)
    (case a_look_battle => k_is)
    (case l_look_battle => k_is)
    (case c_look_battle => k_is)
    (case k_look_battle => k_is)
    (case a_won => k_is)
    (case l_won => k_is)
    (case c_won => k_is)
    (case k_won => k_is)
    (case a_pay => k_is)
    (case l_pay => k_is)
    (case c_pay => k_is)
    (case k_pay => k_is)
    (case a_field_rises => k_is)
    (case l_field_rises => k_is)
    (case c_field_rises => k_is)
    (case k_field_rises => k_is)
    (case a_rises => k_is)
    (case l_rises => k_is)
    (case c_rises => k_is)
    (case k_rises => k_is)
    (case a__law_mix => k_is)
    (case l__law_mix => k_is)
    (case c__law_mix => k_is)
    (case k__law_mix => k_is)
    (case a__law_cell_at => k_is)
    (case l__law_cell_at => k_is)
    (case c__law_cell_at => k_is)
    (case k__law_cell_at => k_is)
    (case a__law_left => k_is)
    (case l__law_left => k_is)
    (case c__law_left => k_is)
    (case k__law_left => k_is)
    (case a__law_draw => k_is)
    (case l__law_draw => k_is)
    (case c__law_draw => k_is)
    (case k__law_draw => k_is)
    (case a__law_some => k_is)
    (case l__law_some => k_is)
    (case c__law_some => k_is)
    (case k__law_some => k_is)
    (case a__law_rule => k_is)
    (case l__law_rule => k_is)
    (case c__law_rule => k_is)
    (case k__law_rule => k_is)
    (case a__law_battle => k_is)
    (case l__law_battle => k_is)
    (case c__law_battle => k_is)
    (case k__law_battle => k_is)
    (case a__law_deep => k_is)
    (case l__law_deep => k_is)
    (case c__law_deep => k_is)
    (case k__law_deep => k_is)
    (case a__law_paid => k_is)
    (case l__law_paid => k_is)
    (case c__law_paid => k_is)
    (case k__law_paid => k_is)
    (case a__law_rises => k_is)
    (case l__law_rises => k_is)
    (case c__law_rises => k_is)
    (case k__law_rises => k_is)
    (case a__law_rising => k_is)
    (case l__law_rising => k_is)
    (case c__law_rising => k_is)
    (case k__law_rising => k_is)
    (case a_law => k_is)
    (case l_law => k_is)
    (case c_law => k_is)
    (case k_law => k_is)
    (case z_all => k_is)
    (case z_bool => k_is)
    (case z_enumerate => k_is)
    (case z_int => k_is)
    (case z_isinstance => k_is)
    (case z_len => k_is)
    (case z_list => k_is)
    (case z_range => k_is)
    (case z_sorted => k_is)
    (case z_sum => k_is)
    (case z_tuple => k_is)
