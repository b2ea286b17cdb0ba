import PyProof.Rows.All
import Wide.All
import OpenK.AllK
import Wide.FinOn
import Lean
import PyProof.EqAt
import PyProof.EqKinds
import PyProof.TupleCall
import PyProof.NeKinds
import PyProof.Rows.ZipGen
import KE.KIntText
import PyProof.ListRange
import KE.LcSums
import PyProof.Rows.SetFrom
import PyProof.SetRoads
import KE.KDictList
import KE.KDictSum
import KE.KRevIter
import KE.KRangeStep
import KE.KSorted
import KE.KItemsList
import PyProof.Rows.MinMaxN
import PyProof.Rows.Range3
import KE.KSortAsk
import KE.KSortTup
import PySem.Challenge.RW_jughouse_k02_reached
set_option Elab.async false
set_option linter.all false
set_option maxRecDepth 100000
/-! THE HAND LAYER, for ints, bools, texts, own classes, LISTS and tuples (index, slices, in, append, pop ..), calls, loops. Paste it whole ahead of your own text; what your proof does not reach may be deleted. -/
namespace L2
open PySem PySem.Spec PyProof.Rows

/-- a key: an int or a str -/
abbrev Key := Sum Int Str
def keyIs : Key → Value → Bool
  | .inl k, v => Value.isInt k v
  | .inr x, v => Value.isStrOf x v
def keyH (w : World) : Key → Int
  | .inl k => hashInt k
  | .inr x => hashStr w x
theorem keyIs_shape : ∀ {k : Key} {v : Value}, keyIs k v = true → (∃ i t, k = Sum.inl i ∧ v = Value.int i t) ∨ (∃ x t, k = Sum.inr x ∧ v = Value.str x t)
  | .inl i, v, h => by
    obtain ⟨t, e⟩ := Value.isInt_shape (k := i) (v := v) h
    exact .inl ⟨i, t, rfl, e⟩
  | .inr x, v, h => by
    obtain ⟨t, e⟩ := Value.isStrOf_shape (x := x) (v := v) h
    exact .inr ⟨x, t, rfl, e⟩
theorem keyIs_int (i : Int) (t : Tok) : keyIs (.inl i) (.int i t) = true := by simp [keyIs, Value.isInt]
theorem keyIs_str (x : Str) (t : Tok) : keyIs (.inr x) (.str x t) = true := by simp [keyIs, Value.isStrOf]
theorem key_ll (a b : Int) : decide ((Sum.inl a : Key) = Sum.inl b) = (a == b) := by
  by_cases e : a = b
  · subst e; simp
  · have h : ¬ (Sum.inl a : Key) = Sum.inl b := fun q => e (Sum.inl.inj q)
    rw [decide_eq_false h]
    exact (beq_eq_false_iff_ne.mpr e).symm
theorem key_rr (a b : Str) : decide ((Sum.inr a : Key) = Sum.inr b) = decide (a = b) := by
  by_cases e : a = b
  · subst e; simp
  · have h : ¬ (Sum.inr a : Key) = Sum.inr b := fun q => e (Sum.inr.inj q)
    rw [decide_eq_false h, decide_eq_false e]
theorem key_lr (a : Int) (b : Str) : decide ((Sum.inl a : Key) = Sum.inr b) = false := decide_eq_false (fun q => nomatch q)
theorem key_rl (a : Str) (b : Int) : decide ((Sum.inr a : Key) = Sum.inl b) = false := decide_eq_false (fun q => nomatch q)

def mixKind (prog : Program) (w : World) : PySem.KeyKind prog w Key where
  is := keyIs
  hash := keyH w
  inj := fun v a b ha hb => by
    rcases keyIs_shape ha with ⟨i, t, rfl, rfl⟩ | ⟨x, t, rfl, rfl⟩
    · rcases keyIs_shape hb with ⟨j, u, rfl, e⟩ | ⟨y, u, rfl, e⟩
      · injection e with e1 _; rw [e1]
      · exact nomatch e
    · rcases keyIs_shape hb with ⟨j, u, rfl, e⟩ | ⟨y, u, rfl, e⟩
      · exact nomatch e
      · injection e with e1 _; rw [e1]
  byValue := fun k v h => by
    rcases keyIs_shape h with ⟨i, t, rfl, rfl⟩ | ⟨x, t, rfl, rfl⟩ <;> rfl
  pyHash := fun hv h => by
    rcases keyIs_shape hv with ⟨i, t, rfl, rfl⟩ | ⟨x, t, rfl, rfl⟩
    · exact wpAny_pyHash_int h
    · exact wpAny_pyHash_str h
  eqBool := fun hu hv h => by
    rcases keyIs_shape hu with ⟨i, t, rfl, rfl⟩ | ⟨x, t, rfl, rfl⟩
    · rcases keyIs_shape hv with ⟨j, u, rfl, rfl⟩ | ⟨y, u, rfl, rfl⟩
      · rw [key_ll] at h; exact wpAny_eqBool_int h
      · rw [key_lr] at h; exact SeqAt.EqAt.int_str i t y u _ _ _ _ h
    · rcases keyIs_shape hv with ⟨j, u, rfl, rfl⟩ | ⟨y, u, rfl, rfl⟩
      · rw [key_rl] at h; exact SeqAt.EqAt.str_int x t j u _ _ _ _ h
      · rw [key_rr] at h; exact wpAny_eqBool_str h
  «strs» := fun k x t v h => by
    rcases keyIs_shape h with ⟨i, u, rfl, e⟩ | ⟨y, u, rfl, e⟩
    · exact nomatch e
    · injection e with e1 _
      subst e1
      cases v <;> rfl

theorem mixKind_int (prog : Program) (w : World) (i : Int) (t : Tok) : (mixKind prog w).is (.inl i) (.int i t) = true := keyIs_int i t
theorem mixKind_str (prog : Program) (w : World) (x : Str) (t : Tok) : (mixKind prog w).is (.inr x) (.str x t) = true := keyIs_str x t
end L2

namespace L2
open PySem PySem.Spec PyProof.Rows

/-- a value, without the heap -/
inductive V where
  | non | bl (b : Bool) | int (i : Int) | str (x : Str) | byt (b : Array UInt8) | flt (b : UInt64) | ref (a : Addr) | ty (n : String)
  deriving DecidableEq

def RelV : V → Value → Prop
  | .non, u => u = Value.none
  | .bl b, u => u = Value.bool b
  | .int i, u => ∃ t, u = Value.int i t
  | .str x, u => ∃ t, u = Value.str x t
  | .byt b, u => ∃ t, u = Value.bytes b t
  | .flt b, u => ∃ t, u = Value.float b t
  | .ref a, u => u = Value.ref a
  | .ty n, u => u = Value.type n

abbrev Vals : List V → List Value → Prop := Paired RelV
theorem Vals.length {xs : List V} {us : List Value} (r : Vals xs us) : xs.length = us.length := Paired.length r
theorem Vals.get : ∀ {xs : List V} {us : List Value} {i : Nat} {x : V}, Vals xs us → xs[i]? = some x → ∃ u, us[i]? = some u ∧ RelV x u
  | _, _, _, _, .nil, e => by simp at e
  | _, _, 0, _, .cons r _, e => by simp at e; subst e; exact ⟨_, rfl, r⟩
  | _, _, i + 1, x, .cons _ t, e => by
    obtain ⟨u, h1, h2⟩ := Vals.get (i := i) (x := x) t (by simpa using e)
    exact ⟨u, by simpa using h1, h2⟩
theorem Vals.set {x : V} {u : Value} (r : RelV x u) : ∀ {xs : List V} {us : List Value} (i : Nat), Vals xs us → Vals (xs.set i x) (us.set i u)
  | _, _, _, .nil => .nil
  | _, _, 0, .cons _ t => .cons r t
  | _, _, i + 1, .cons q t => .cons q (Vals.set r i t)
theorem Vals.append : ∀ {xs ys : List V} {us ws : List Value}, Vals xs us → Vals ys ws → Vals (xs ++ ys) (us ++ ws)
  | _, _, _, _, .nil, s => s
  | _, _, _, _, .cons r t, s => .cons r (Vals.append t s)
theorem Vals.take : ∀ {xs : List V} {us : List Value} (n : Nat), Vals xs us → Vals (xs.take n) (us.take n)
  | _, _, 0, _ => .nil
  | _, _, _ + 1, .nil => .nil
  | _, _, n + 1, .cons r t => .cons r (Vals.take n t)
theorem Vals.drop : ∀ {xs : List V} {us : List Value} (n : Nat), Vals xs us → Vals (xs.drop n) (us.drop n)
  | _, _, 0, r => r
  | _, _, _ + 1, .nil => .nil
  | _, _, n + 1, .cons _ t => Vals.drop n t

def RelO : Option V → Option Value → Prop
  | some v, some u => RelV v u
  | none, none => True
  | _, _ => False
def KV {κ : Type} : List (κ × V) → List (κ × Value) → Prop := Paired fun (p : κ × V) (q : κ × Value) => p.1 = q.1 ∧ RelV p.2 q.2

/-- a key of a dict (00_mix): an int or a text -/
def kV : Key → V
  | .inl i => .int i
  | .inr x => .str x

/-- what stands at a tracked address -/
inductive HO where
  /-- a list -/
  | lst (xs : List V)
  /-- a tuple (never changes) -/
  | tup (xs : List V)
  /-- a dict whose keys are ints and texts; one whose keys are tuples of ints and texts (the empty one is both) -/
  | dK (kvs : List (Key × V)) | dT (kvs : List (List Key × V))
  /-- a set of ints: its members, its size -/
  | set (S : Int → Bool) (n : Nat)
  /-- an instance of the class at C, its dict at dx, its attributes -/
  | ins (C dx : Addr) (fs : List (Str × V))
  /-- the dict of the instance at x -/
  | own (x : Addr)
  /-- the dict of an exception -/
  | xd (fs : List (Str × V))
  /-- a bound method, f of x -/
  | met (f x : Addr)
  /-- a range object lo, lo + 1, .. below hi -/
  | rng (lo hi : Int)
  /-- a thing that is known to the object (the script; a dict while a loop walks it): read, never written while it is so -/
  | frz (o : Obj) (u : HO)
  /-- a code object's table -/
  | tbl (ps : Array Value)
  /-- any other thing, by what is true of its one object (a def of one's own: SetO a S n := HO.ext fun h => ..) -/
  | ext (φ : Heap → Prop)

abbrev Hp := Addr → Option HO
def upd (H : Hp) (a : Addr) (o : HO) : Hp := fun b => if b = a then some o else H b
theorem upd_same {H : Hp} {a : Addr} {o : HO} : upd H a o a = some o := by unfold upd; rw [if_pos rfl]
theorem upd_ne {H : Hp} {a b : Addr} {o : HO} (h : b ≠ a) : upd H a o b = H b := by unfold upd; rw [if_neg h]
theorem upd_upd {H : Hp} {a : Addr} {o u : HO} : upd (upd H a o) a u = upd H a u := by
  funext b; unfold upd; split <;> rfl
/-- two objects of different content stand apart -/
theorem ne_of {H : Hp} {a b : Addr} {o u : HO} (h : H a = some o) (h' : H b = some u) (d : o ≠ u) : a ≠ b := by
  intro e; subst e; rw [h] at h'; exact d (Option.some.inj h')
theorem ne_of_none {H : Hp} {a b : Addr} {o : HO} (h : H a = some o) (h' : H b = none) : a ≠ b := by
  intro e; subst e; rw [h] at h'; cases h'

section
variable (P : Program) (w : World)
def ObjOk (H : Hp) (h : Heap) (a : Addr) : HO → Prop
  | .lst xs => xs.length ≤ sizeLine ∧ ∃ (its : List Value) (n : Nat), Vals xs its ∧ h.get? a = some { cls := .type "list", data := .seq its.toArray n }
  | .tup xs => xs.length ≤ sizeLine ∧ ∃ its : List Value, Vals xs its ∧ IsTup h a its.toArray
  | .dK kvs => kvs.length ≤ sizeLine ∧ (a == sysModules) = false ∧ ∃ vs, KV kvs vs ∧ h.DictOf (mixKind P w) a vs
  | .dT kvs => kvs.length ≤ sizeLine ∧ (a == sysModules) = false ∧ ∃ xs : List (List Key × Addr × Value),
      Paired (fun (p : List Key × V) (q : List Key × Addr × Value) => p.1 = q.1 ∧ H q.2.1 = some (.tup (p.1.map kV)) ∧ RelV p.2 q.2.2) kvs xs ∧
      ∃ o es ep, h.get? a = some o ∧ o.ExactDict ∧ o.data = .dict es ep ∧ es.toList = xs.map (entryOfKey (tupleKind (mixKind P w))) ∧ (xs.map (·.1)).Nodup
  | .set S n => h.SetOf (intKind P w) a S n
  | .ins C dx fs => H dx = some (.own a) ∧ fs.length ≤ 1000 ∧ dx ≠ a ∧ h.get? a = some (PySem.W.instObj C dx) ∧
      ∃ mA, h.Ns1 dx mA ∧ (∀ f, RelO (fs.lookup f) (mA f)) ∧ PySem.Within mA (fs.map (·.1))
  | .own _ => ∃ o, h.get? a = some o
  | .xd fs => ∃ mA, h.Ns1 a mA ∧ ∀ f, RelO (fs.lookup f) (mA f)
  | .rng lo hi => ∃ t u v, h.get? a = some { cls := .type "range", data := .fields #[.int lo t, .int hi u, .int 1 v] }
  | .frz o u => h.get? a = some o ∧ ObjOk H h a u
  | .tbl ps => h.get? a = some { cls := .none, data := .fields ps }
  | .met f x => h.get? a = some (PySem.W.methodObj (.ref f) (.ref x))
  | .ext φ => φ h ∧ (∃ o, h.get? a = some o) ∧ ∀ h1 h2 : Heap, φ h1 → (∀ o, h1.get? a = some o → h2.get? a = some o) → φ h2
/-- the abstract heap is held -/
def HOk (H : Hp) (h : Heap) : Prop := ∀ a o, H a = some o → ObjOk P w H h a o
end

section
variable {P : Program} {w : World} {H H' : Hp} {h h' : Heap} {a : Addr} {o : HO}
theorem ObjOk.lt (x : ObjOk P w H h a o) : a < h.objs.size := by
  cases o with
  | lst xs => obtain ⟨_, _, _, _, e⟩ := x; exact Heap.lt_size e
  | tup xs => obtain ⟨_, _, _, p⟩ := x; exact p.lt
  | dK kvs => obtain ⟨_, _, _, _, o, _, _, e, _⟩ := x; exact Heap.lt_size e
  | dT kvs => obtain ⟨_, _, _, _, o, _, _, e, _⟩ := x; exact Heap.lt_size e
  | set S n => obtain ⟨o, _, _, _, e, _⟩ := x; exact Heap.lt_size e
  | ins C dx fs => obtain ⟨_, _, _, e, _⟩ := x; exact Heap.lt_size e
  | own y => obtain ⟨_, e⟩ := x; exact Heap.lt_size e
  | xd fs => obtain ⟨_, ⟨_, _, _, e, _⟩, _⟩ := x; exact Heap.lt_size e
  | rng lo hi => obtain ⟨_, _, _, e⟩ := x; exact Heap.lt_size e
  | frz ob u => obtain ⟨e, _⟩ := x; exact Heap.lt_size e
  | tbl ps => exact Heap.lt_size (show h.get? a = some _ from x)
  | met f y => exact Heap.lt_size (show h.get? a = some _ from x)
  | ext φ => obtain ⟨_, ⟨_, e⟩, _⟩ := x; exact Heap.lt_size e
theorem Paired.mapP {α β : Type} {F G : α → β → Prop} : ∀ {l₁ : List α} {l₂ : List β}, Paired F l₁ l₂ → (∀ a b, F a b → G a b) → Paired G l₁ l₂
  | _, _, .nil, _ => .nil
  | _, _, .cons r t, f => .cons (f _ _ r) (Paired.mapP t f)
/-- what an object's description leans on: its own object, its own dict, the tuples -/
theorem ObjOk.stay (x : ObjOk P w H h a o) (k : ∀ b u, (b = a ∨ H b = some (.own a)) → h.get? b = some u → h'.get? b = some u)
    (ho : ∀ b, H b = some (.own a) → H' b = some (.own a)) (ht : ∀ b xs, H b = some (.tup xs) → H' b = some (.tup xs)) : ObjOk P w H' h' a o := by
  induction o with
  | lst xs => obtain ⟨z, its, n, r, e⟩ := x; exact ⟨z, its, n, r, k _ _ (.inl rfl) e⟩
  | tup xs => obtain ⟨z, its, r, ob, e, c⟩ := x; exact ⟨z, its, r, ob, k _ _ (.inl rfl) e, c⟩
  | dK kvs => obtain ⟨z, y, vs, r, ob, es, ep, e, c⟩ := x; exact ⟨z, y, vs, r, ob, es, ep, k _ _ (.inl rfl) e, c⟩
  | dT kvs =>
    obtain ⟨z, y, xs, r, ob, es, ep, e, c⟩ := x
    exact ⟨z, y, xs, Paired.mapP r fun p q z => ⟨z.1, ht _ _ z.2.1, z.2.2⟩, ob, es, ep, k _ _ (.inl rfl) e, c⟩
  | set S n => obtain ⟨ob, es, ep, t, e, c⟩ := x; exact ⟨ob, es, ep, t, k _ _ (.inl rfl) e, c⟩
  | ins C dx fs =>
    obtain ⟨d, z, ne, e, mA, ⟨od, es, ep, e2, c⟩, r⟩ := x
    exact ⟨ho _ d, z, ne, k _ _ (.inl rfl) e, mA, ⟨od, es, ep, k _ _ (.inr d) e2, c⟩, r⟩
  | own y => obtain ⟨ob, e⟩ := x; exact ⟨ob, k _ _ (.inl rfl) e⟩
  | xd fs => obtain ⟨mA, ⟨od, es, ep, e, c⟩, r⟩ := x; exact ⟨mA, ⟨od, es, ep, k _ _ (.inl rfl) e, c⟩, r⟩
  | rng lo hi => obtain ⟨t, u, v, e⟩ := x; exact ⟨t, u, v, k _ _ (.inl rfl) e⟩
  | frz ob u ih => obtain ⟨e, q⟩ := x; exact ⟨k _ _ (.inl rfl) e, ih q⟩
  | tbl ps =>
    have e : h.get? a = some { cls := .none, data := .fields ps } := x
    show h'.get? a = some { cls := .none, data := .fields ps }
    exact k a _ (.inl rfl) e
  | met f y =>
    have e : h.get? a = some (PySem.W.methodObj (.ref f) (.ref y)) := x
    show h'.get? a = some (PySem.W.methodObj (.ref f) (.ref y))
    exact k a _ (.inl rfl) e
  | ext φ => obtain ⟨p, ⟨o, e⟩, st⟩ := x; exact ⟨st _ _ p fun o q => k _ _ (.inl rfl) q, ⟨o, k _ _ (.inl rfl) e⟩, st⟩
theorem HOk.lt (x : HOk P w H h) (e : H a = some o) : a < h.objs.size := (x a o e).lt
theorem HOk.fresh (x : HOk P w H h) (e : h.objs.size ≤ a) : H a = none := by
  cases q : H a with
  | none => rfl
  | some u => exact absurd (Nat.lt_of_lt_of_le (x.lt q) e) (Nat.lt_irrefl _)
/-- every object of the heap is kept -/
theorem HOk.kept (x : HOk P w H h) (k : ∀ b u, h.get? b = some u → h'.get? b = some u) : HOk P w H h' := fun a o e =>
  (x a o e).stay (fun b u _ q => k b u q) (fun _ q => q) fun _ _ q => q
/-- a new object is laid and tracked -/
theorem HOk.laid (x : HOk P w H h) (k : ∀ b u, h.get? b = some u → h'.get? b = some u) (hp : h.objs.size ≤ a) (new : ObjOk P w (upd H a o) h' a o) : HOk P w (upd H a o) h' := fun b u e => by
  have hn := x.fresh hp
  by_cases hb : b = a
  · subst hb; rw [upd_same] at e; cases e; exact new
  · rw [upd_ne hb] at e
    exact (x b u e).stay (fun c v _ q => k c v q) (fun c q => by rw [upd_ne (ne_of_none q hn)]; exact q) fun c xs q => by rw [upd_ne (ne_of_none q hn)]; exact q
end

/-- what may be read as u: it is u, or a known u -/
def Rd (H : Hp) (a : Addr) (u : HO) : Prop := H a = some u ∨ ∃ o, H a = some (.frz o u)
theorem Rd.ok {P : Program} {w : World} {H : Hp} {h : Heap} {a : Addr} {u : HO} (r : Rd H a u) (x : HOk P w H h) : ObjOk P w H h a u := by
  rcases r with r | ⟨o, r⟩
  · exact x a u r
  · obtain ⟨_, q⟩ := x a _ r
    exact q
/-- what may be written -/
def Mut : Option HO → Prop
  | some (.lst _) => True
  | some (.dK _) => True
  | some (.dT _) => True
  | some (.set _ _) => True
  | some (.ins _ _ _) => True
  | some (.ext _) => True
  | _ => False
section
variable {P : Program} {w : World} {H : Hp} {h h' : Heap} {x e : Addr} {o' : HO}
/-- the object at e is changed: x itself, or the dict of the instance x -/
theorem HOk.write (ok : HOk P w H h) (mu : Mut (H x)) (he : e = x ∨ H e = some (.own x)) (k : ∀ b u, b ≠ e → h.get? b = some u → h'.get? b = some u) (heo : ∃ u, h'.get? e = some u)
    (new : ObjOk P w (upd H x o') h' x o') : HOk P w (upd H x o') h' := fun b u q => by
  have nown : ∀ c y, H c = some (.own y) → c ≠ x := fun c y r z => by subst z; rw [r] at mu; exact mu
  have ntup : ∀ c xs, H c = some (.tup xs) → c ≠ x := fun c xs r z => by subst z; rw [r] at mu; exact mu
  by_cases hb : b = x
  · subst hb; rw [upd_same] at q; cases q; exact new
  · rw [upd_ne hb] at q
    by_cases hbe : b = e
    · have q' : H b = some (.own x) := by
        rcases he with z | z
        · exact absurd (hbe.trans z) hb
        · rw [hbe]; exact z
      rw [q] at q'; cases q'
      obtain ⟨v, hv⟩ := heo
      exact ⟨v, by rw [hbe]; exact hv⟩
    · refine (ok b u q).stay (fun c v hc r => k c v ?_ r) (fun c r => by rw [upd_ne (nown c b r)]; exact r) fun c xs r => by rw [upd_ne (ntup c xs r)]; exact r
      rcases hc with rfl | hc
      · exact hbe
      · rintro rfl
        rcases he with z | z
        · exact nown c b hc z
        · rw [hc] at z; cases z; exact hb rfl
end

/-! ### kept unless tracked; of the frames at fs (the callers') the slots may change (an exception that passes writes there); of the records at ex (iterators) nothing is said -/
structure Un (fs ex : List Addr) (H H' : Hp) (h h' : Heap) : Prop where
  keep : ∀ b o, h.get? b = some o → H b = none → b ∉ fs → b ∉ ex → h'.get? b = some o
  slot : ∀ b o, h.get? b = some o → H b = none → b ∈ fs → b ∉ ex → ∃ sl, h'.get? b = some { o with slots := sl }
  free : ∀ b o, h.get? b = some o → H b = none → b ∉ ex → H' b = none
  there : ∀ b o, h.get? b = some o → b ∉ ex → ∃ o', h'.get? b = some o'
  tups : ∀ b xs, H b = some (.tup xs) → H' b = some (.tup xs)
  frzs : ∀ b o u, H b = some (.frz o u) → H' b = some (.frz o u)
  tbls : ∀ b ps, H b = some (.tbl ps) → ∃ more, H' b = some (.tbl (ps ++ more))
section
variable {fs fs' ex ex' : List Addr} {H H1 H2 : Hp} {h h1 h2 h' : Heap} {a x e : Addr} {o : HO}
theorem Un.any (u : Un fs ex H H1 h h1) {b : Addr} {ob : Obj} (q : h.get? b = some ob) (n : H b = none) (hx : b ∉ ex) : ∃ sl, h1.get? b = some { ob with slots := sl } := by
  by_cases hb : b ∈ fs
  · exact u.slot b ob q n hb hx
  · exact ⟨ob.slots, u.keep b ob q n hb hx⟩
theorem Un.kept (k : ∀ b u, h.get? b = some u → h'.get? b = some u) : Un fs ex H H h h' :=
  ⟨fun b ob q _ _ _ => k b ob q, fun b ob q _ _ _ => ⟨ob.slots, k b ob q⟩, fun _ _ _ n _ => n, fun b ob q _ => ⟨ob, k b ob q⟩, fun _ _ q => q, fun _ _ _ q => q, fun _ ps q => ⟨#[], by rw [q]; simp⟩⟩
theorem Un.refl : Un fs ex H H h h := Un.kept fun _ _ q => q
theorem Un.laid (k : ∀ b u, h.get? b = some u → h'.get? b = some u) (hp : h.objs.size ≤ a) (hn : H a = none) : Un fs ex H (upd H a o) h h' where
  keep := fun b u q _ _ _ => k b u q
  slot := fun b u q _ _ _ => ⟨u.slots, k b u q⟩
  free := fun b u q n _ => by rw [upd_ne (Nat.ne_of_lt (Nat.lt_of_lt_of_le (Heap.lt_size q) hp))]; exact n
  there := fun b u q _ => ⟨u, k b u q⟩
  tups := fun b xs q => by rw [upd_ne (ne_of_none q hn)]; exact q
  frzs := fun b u xs q => by rw [upd_ne (ne_of_none q hn)]; exact q
  tbls := fun b ps q => ⟨#[], by rw [upd_ne (ne_of_none q hn), q]; simp⟩
theorem Un.write (mu : Mut (H x)) (he : e = x ∨ H e = some (.own x)) (k : ∀ b u, b ≠ e → h.get? b = some u → h'.get? b = some u) (heo : ∃ u, h'.get? e = some u) : Un fs ex H (upd H x o) h h' := by
  have hx : ∀ b, H b = none → b ≠ x := fun b n z => by subst z; rw [n] at mu; exact mu
  have hb : ∀ b, H b = none → b ≠ e := fun b n z => by
    subst z
    rcases he with r | r
    · exact hx b n r
    · rw [n] at r; cases r
  have hm : ∀ b u, H b = some u → ¬ Mut (some u) → b ≠ x := fun b u q nm z => by subst z; rw [q] at mu; exact nm mu
  refine ⟨fun b u q n _ _ => k b u (hb b n) q, fun b u q n _ _ => ⟨u.slots, k b u (hb b n) q⟩, fun b u q n _ => by rw [upd_ne (hx b n)]; exact n, fun b u q _ => ?_,
    fun b xs q => by rw [upd_ne (hm b _ q fun z => z)]; exact q, fun b u xs q => by rw [upd_ne (hm b _ q fun z => z)]; exact q, fun b ps q => ⟨#[], by rw [upd_ne (hm b _ q fun z => z), q]; simp⟩⟩
  by_cases hbe : b = e
  · subst hbe; exact heo
  · exact ⟨u, k b u hbe q⟩
end

/-! ### the heap without what is tracked -/
def trk (h : Heap) (H : Hp) : List Addr := (List.range h.objs.size).filter fun a => (H a).isSome
def hidT (h : Heap) (H : Hp) : Heap := PySem.W.hideAll h (trk h H)
theorem hidT_size (h : Heap) (H : Hp) : (hidT h H).objs.size = h.objs.size := PySem.W.hideAll_size _ _
theorem hidT_get {h : Heap} {H : Hp} {b : Addr} {o : Obj} (e : h.get? b = some o) (n : H b = none) : (hidT h H).get? b = some o :=
  PySem.W.hideAll_get _ e fun hm => by
    have q : (H b).isSome = true := (List.mem_filter.mp hm).2
    rw [n] at q; simp at q
theorem of_hidT {h : Heap} {H : Hp} {b : Addr} {o : Obj} (e : (hidT h H).get? b = some o) : h.get? b = some o ∧ H b = none := by
  have e' : h.get? b = some o := PySem.W.of_hideAll (trk h H) e
  refine ⟨e', ?_⟩
  cases q : H b with
  | none => rfl
  | some x =>
    have hm : b ∈ trk h H := List.mem_filter.mpr ⟨List.mem_range.mpr (Heap.lt_size e'), by simp [q]⟩
    have z : (hidT h H).get? b = none := PySem.W.hideAll_none (trk h H) hm
    rw [z] at e; cases e

/-! ### OpenK's ledger, filled with every new object but one -/
end L2

namespace L2
open PySem PySem.Spec PyProof.Rows

/-- the module's facts, over the base: the heap at the law's entry without what is tracked there -/
structure Mod (K : PySem.W.Frag) (mg : Str → Option Value) (base : Heap) : Prop where
  kin : K.In base
  glob : base.Ns mainGlobals mg
  blt : ∃ mb, base.Ns builtinsNs mb ∧ ∀ x : Str, x ≠ "__name__" → mb x = bootBuiltins x
  nolimit : base.NoLimit

/-- the context: a def's body (or a comprehension's block) running. base: fixed through the whole law; s₀, H₀: the entry; outer: the frames whose slots others may change (a def's callers); stack: all frames that run;
   ex: iterators that were made ahead of the entry and are walked here (a comprehension's); fn: the names whose cells were made at the entry (a def: all; a comprehension's block: its own); calm: not within an except suite; pn: pins that every state bears; xe: what is wanted of an exception that leaves the code -/
structure Cx where
  prog : Program
  w : World
  K : PySem.W.Frag
  mg : Str → Option Value
  base : Heap
  A : Around
  N : List Str
  s₀ : Shared
  H₀ : Hp
  env : Env
  outer : List Env
  stack : List Env
  ex : List Addr
  fn : Str → Bool
  calm : Bool
  pn : List (Addr × Obj)
  xe : Value → Shared → Prop
/-- the callers' frames -/
def frs (l : List Env) : List Addr := l.filterMap (·.frame)
abbrev Cx.fs (X : Cx) : List Addr := frs X.outer

def Vis (sc : Scope) (x : Str) : Prop := sc.names.lookup x = some .local ∨ sc.names.lookup x = some .cell ∨ sc.names.lookup x = some .free
def Loc (sc : Scope) (x : Str) : Prop := sc.names.lookup x = some .local ∨ sc.names.lookup x = some .cell
def Look (env : Env) (h : Heap) (m : Str → Option Value) (x : Str) (u : Value) : Prop :=
  (env.kindOf x = some .local ∧ m x = some u) ∨ ((env.kindOf x = some .cell ∨ env.kindOf x = some .free) ∧ ∃ c, env.cells.lookup x = some c ∧ h.IsCell c (some u))

structure Cx.Ok (X : Cx) : Prop where
  mod : Mod X.K X.mg X.base
  kind : X.env.scope.kind = .function
  glob : X.env.globals = mainGlobals
  blt : X.env.builtins = builtinsNs
  above : X.s₀.heap.objs.size ≤ X.env.locals
  inj : ∀ x y c, X.env.cells.lookup x = some c → X.env.cells.lookup y = some c → x = y
  has : ∀ x, (X.env.kindOf x = some .cell ∨ X.env.kindOf x = some .free) → ∃ c, X.env.cells.lookup x = some c
  cab : ∀ x c, X.fn x = true → X.env.cells.lookup x = some c → X.s₀.heap.objs.size ≤ c
  hd : X.calm = true → X.A.handled = none
  frames : X.A.frames = some X.stack
  stk : X.stack = X.outer ∨ (X.stack = X.env :: X.outer ∧ X.env.frame = some X.env.locals)
  exf : ∀ b ∈ X.ex, b ≠ X.env.locals ∧ ∀ x c, X.env.cells.lookup x = some c → c ≠ b
  bs : ∀ b o, X.base.get? b = some o → X.s₀.heap.get? b = some o ∧ X.H₀ b = none
  bsz : X.base.objs.size ≤ X.s₀.heap.objs.size
  noex : ∀ b o, X.base.get? b = some o → b ∉ X.ex
  exfs : ∀ b ∈ X.ex, b ∉ X.fs
  funs : X.s₀.heap.FunFrames X.base X.outer
  frf : ∀ b ∈ X.fs, X.H₀ b = none

structure Inv (X : Cx) (pins : List (Addr × Obj)) (σ : List (Option V)) (H : Hp) (s : Shared) : Prop where
  ok : X.Ok
  os : s.os = X.s₀.os
  bare : AllBare s.gens
  base : Un X.fs X.ex X.H₀ H X.s₀.heap s.heap
  loc : ∃ m, s.heap.Ns X.env.locals m ∧ ∀ (i : Nat) (x : Str) (v : V), X.N[i]? = some x → σ[i]? = some (some v) → Vis X.env.scope x → ∃ u, RelV v u ∧ Look X.env s.heap m x u
  cell : ∀ x c, X.env.cells.lookup x = some c → ∃ v, s.heap.IsCell c v
  free : H X.env.locals = none
  freeC : ∀ x c, X.env.cells.lookup x = some c → H c = none
  pin : ∀ p ∈ X.pn ++ pins, s.heap.get? p.1 = some p.2 ∧ H p.1 = none ∧ p.1 ≠ X.env.locals ∧ p.1 ∉ X.fs ∧ ∀ v, p.2.data ≠ .cell v
  hok : HOk X.prog X.w H s.heap
  len : σ.length = X.N.length

section
variable {X : Cx} {pins : List (Addr × Obj)} {σ : List (Option V)} {H H' : Hp} {s : Shared} {h' : Heap}

theorem Cx.Ok.nofr (ok : X.Ok) {b : Addr} {o : Obj} (e : X.base.get? b = some o) : b ∉ X.fs := fun hb => by
  have := (ok.funs.mem hb).1
  rw [e] at this; cases this
theorem Inv.bs (I : Inv X pins σ H s) : ∀ b o, X.base.get? b = some o → s.heap.get? b = some o ∧ H b = none := fun b o e =>
  ⟨I.base.keep b o (I.ok.bs b o e).1 (I.ok.bs b o e).2 (I.ok.nofr e) (I.ok.noex b o e), I.base.free b o (I.ok.bs b o e).1 (I.ok.bs b o e).2 (I.ok.noex b o e)⟩
theorem Inv.bk (I : Inv X pins σ H s) : ∀ b o, X.base.get? b = some o → s.heap.get? b = some o := fun b o e => (I.bs b o e).1
theorem Inv.mod (I : Inv X pins σ H s) : Mod X.K X.mg X.base := I.ok.mod
theorem Inv.kIn (I : Inv X pins σ H s) : X.K.In s.heap := I.ok.mod.kin.keeps I.bk
theorem Inv.lt (I : Inv X pins σ H s) : X.env.locals < s.heap.objs.size := let ⟨_, hn, _⟩ := I.loc; hn.lt
theorem Inv.sz (I : Inv X pins σ H s) : X.s₀.heap.objs.size ≤ s.heap.objs.size := Nat.le_trans I.ok.above (Nat.le_of_lt I.lt)
theorem Inv.nofs (I : Inv X pins σ H s) {a : Addr} (h : s.heap.objs.size ≤ a) : a ∉ X.fs := fun hb => by
  obtain ⟨_, o, ho, _⟩ := I.ok.funs.mem hb
  exact absurd (Nat.lt_of_lt_of_le (Heap.lt_size ho) (Nat.le_trans I.sz h)) (Nat.lt_irrefl _)
theorem Inv.cne (I : Inv X pins σ H s) : ∀ x c, X.env.cells.lookup x = some c → c ≠ X.env.locals := fun x c e z => by
  obtain ⟨v, o, ho, hd⟩ := I.cell x c e
  obtain ⟨m, ⟨o', es, ep, ho', hd', _⟩, _⟩ := I.loc
  rw [z, ho'] at ho; cases ho; rw [hd'] at hd; cases hd
theorem Inv.funs (I : Inv X pins σ H s) : s.heap.FunFrames X.base X.outer := by
  have all : ∀ (l : List Env), (∀ b ∈ frs l, b ∈ X.fs) → X.s₀.heap.FunFrames X.base l → s.heap.FunFrames X.base l := by
    intro l
    induction l with
    | nil => intro _ _; trivial
    | cons env r ih =>
      intro hs hl
      obtain ⟨hk, ⟨L, o, hf, hn, ho, hd⟩, hr⟩ := hl
      have hL : L ∈ X.fs := hs L (by unfold frs; rw [List.filterMap_cons, hf]; exact List.mem_cons_self)
      obtain ⟨sl, e⟩ := I.base.slot L o ho (I.ok.frf L hL) hL fun z => I.ok.exfs L z hL
      exact ⟨hk, ⟨L, _, hf, hn, e, hd⟩, ih (fun b hb => hs b (by unfold frs; rw [List.filterMap_cons, hf]; exact List.mem_cons_of_mem _ hb)) hr⟩
  exact all X.outer (fun _ hb => hb) I.ok.funs

/-- the frames that run, for a call -/
theorem Inv.stack (I : Inv X pins σ H s) : s.heap.FunFrames X.base X.stack := by
  rcases I.ok.stk with e | ⟨e, hf⟩
  · rw [e]; exact I.funs
  · rw [e]
    obtain ⟨m, hn, _⟩ := I.loc
    refine .cons (by rw [I.ok.kind]; decide) hf hn ?_ I.funs
    exact Heap.get?_none_of_le (Nat.le_trans I.ok.bsz I.ok.above)
theorem Inv.stkSub (I : Inv X pins σ H s) : ∀ b ∈ frs X.stack, b ∈ X.env.locals :: X.fs := fun b hb => by
  rcases I.ok.stk with e | ⟨e, hf⟩
  · rw [e] at hb; exact List.mem_cons_of_mem _ hb
  · rw [e] at hb
    unfold frs at hb
    rw [List.filterMap_cons, hf] at hb
    exact hb
theorem Inv.stkFree (I : Inv X pins σ H s) : ∀ b ∈ frs X.stack, H b = none := fun b hb => by
  rcases List.mem_cons.mp (I.stkSub b hb) with e | hb
  · rw [e]; exact I.free
  · obtain ⟨_, o, ho, _⟩ := I.ok.funs.mem hb
    exact I.base.free b o ho (I.ok.frf b hb) fun z => I.ok.exfs b z hb

/-- THE STEP: the untracked objects but the frame and the records at ch are kept (the callers' frames up to slots), the frame's map is kept, the new abstract heap is held -/
theorem Inv.step {g' : Array GenState} {t' : Nat} {d' : Drawn} {ch : List Addr} (I : Inv X pins σ H s)
    (hch : ∀ b ∈ ch, (b ∈ X.ex ∨ X.s₀.heap.objs.size ≤ b) ∧ b ≠ X.env.locals ∧ (∀ x c, X.env.cells.lookup x = some c → c ≠ b) ∧ ∀ p ∈ X.pn ++ pins, p.1 ≠ b)
    (keep : ∀ b o, b ≠ X.env.locals → b ∉ X.fs → b ∉ ch → s.heap.get? b = some o → H b = none → h'.get? b = some o)
    (slot : ∀ b o, b ≠ X.env.locals → b ∈ X.fs → b ∉ ch → s.heap.get? b = some o → H b = none → ∃ sl, h'.get? b = some { o with slots := sl }) (free : ∀ b o, b ∉ ch → s.heap.get? b = some o → H b = none → H' b = none)
    (there : ∀ b o, b ∉ ch → s.heap.get? b = some o → ∃ o', h'.get? b = some o')
    (tups : ∀ b xs, H b = some (.tup xs) → H' b = some (.tup xs)) (frzs : ∀ b o u, H b = some (.frz o u) → H' b = some (.frz o u)) (tbls : ∀ b ps, H b = some (.tbl ps) → ∃ more, H' b = some (.tbl (ps ++ more)))
    (ns : ∀ m, s.heap.Ns X.env.locals m → h'.Ns X.env.locals m) (hok : HOk X.prog X.w H' h') (hg : AllBare g') :
    Inv X pins σ H' { s with heap := h', gens := g', drawn := d', toks := t' } := by
  have neL : ∀ b o, X.s₀.heap.get? b = some o → b ≠ X.env.locals := fun b o e => Nat.ne_of_lt (Nat.lt_of_lt_of_le (Heap.lt_size e) I.ok.above)
  have neC : ∀ b o, X.s₀.heap.get? b = some o → b ∉ X.ex → b ∉ ch := fun b o e hx hb => by
    rcases (hch b hb).1 with z | z
    · exact hx z
    · exact absurd (Nat.lt_of_lt_of_le (Heap.lt_size e) z) (Nat.lt_irrefl _)
  have cellK : ∀ x c, X.env.cells.lookup x = some c → ∀ v, s.heap.IsCell c v → h'.IsCell c v := fun x c e v ⟨o, ho, hd⟩ => by
    have nch : c ∉ ch := fun z => (hch c z).2.2.1 x c e rfl
    by_cases hc : c ∈ X.fs
    · obtain ⟨sl, q⟩ := slot c o (I.cne x c e) hc nch ho (I.freeC x c e)
      exact ⟨_, q, hd⟩
    · exact ⟨o, keep c o (I.cne x c e) hc nch ho (I.freeC x c e), hd⟩
  refine ⟨I.ok, I.os, hg, ⟨fun b o e n hb hx => ?_, fun b o e n hb hx => ?_, fun b o e n hx => ?_, fun b o e hx => ?_, fun b xs e => tups b xs (I.base.tups b xs e), fun b o xs e => frzs b o xs (I.base.frzs b o xs e), fun b ps e => ?_⟩, ?_, fun x c e => ?_, ?_, fun x c e => ?_, fun p hp => ?_, hok, I.len⟩
  · exact keep b o (neL b o e) hb (neC b o e hx) (I.base.keep b o e n hb hx) (I.base.free b o e n hx)
  · obtain ⟨sl, e1⟩ := I.base.slot b o e n hb hx
    obtain ⟨sl', e2⟩ := slot b _ (neL b o e) hb (neC b o e hx) e1 (I.base.free b o e n hx)
    exact ⟨sl', e2⟩
  · obtain ⟨o', e1⟩ := I.base.there b o e hx
    exact free b o' (neC b o e hx) e1 (I.base.free b o e n hx)
  · obtain ⟨o', e1⟩ := I.base.there b o e hx
    exact there b o' (neC b o e hx) e1
  · obtain ⟨m1, e1⟩ := I.base.tbls b ps e
    obtain ⟨m2, e2⟩ := tbls b _ e1
    exact ⟨m1 ++ m2, by rw [e2, Array.append_assoc]⟩
  · obtain ⟨m, hn, hl⟩ := I.loc
    refine ⟨m, ns m hn, fun i x v e1 e2 e3 => ?_⟩
    obtain ⟨u, r, l⟩ := hl i x v e1 e2 e3
    refine ⟨u, r, ?_⟩
    rcases l with l | ⟨k, c, e, z⟩
    · exact .inl l
    · exact .inr ⟨k, c, e, cellK x c e _ z⟩
  · obtain ⟨v, z⟩ := I.cell x c e
    exact ⟨v, cellK x c e v z⟩
  · obtain ⟨m, ⟨o, _, _, ho, _⟩, _⟩ := I.loc
    exact free _ o (fun z => (hch _ z).2.1 rfl) ho I.free
  · obtain ⟨v, o, ho, hd⟩ := I.cell x c e
    exact free c o (fun z => (hch c z).2.2.1 x c e rfl) ho (I.freeC x c e)
  · obtain ⟨e, n, ne, nf, d⟩ := I.pin p hp
    have nch : p.1 ∉ ch := fun z => (hch p.1 z).2.2.2 p hp rfl
    exact ⟨keep p.1 p.2 ne nf nch e n, free p.1 p.2 nch e n, ne, nf, d⟩
/-- .. where the frame's own object is kept too -/
theorem Inv.un {t' : Nat} (I : Inv X pins σ H s) (u : Un X.fs [] H H' s.heap h') (hok : HOk X.prog X.w H' h') : Inv X pins σ H' { s with heap := h', toks := t' } := by
  obtain ⟨m, ⟨o, es, ep, ho, r⟩, _⟩ := id I.loc
  obtain ⟨sl, hL⟩ := u.any ho I.free (by simp)
  exact I.step (g' := s.gens) (d' := s.drawn) (ch := []) (fun _ z => nomatch z) (fun b o _ hb _ e n => u.keep b o e n hb (by simp)) (fun b o _ hb _ e n => u.slot b o e n hb (by simp)) (fun b o _ e n => u.free b o e n (by simp)) (fun b o _ e => u.there b o e (by simp)) u.tups u.frzs u.tbls (fun m' hm => by
    obtain ⟨o', es', ep', ho', r'⟩ := hm
    rw [ho] at ho'; cases ho'
    exact ⟨_, es', ep', hL, r'⟩) hok I.bare
/-- behind a call (or a comprehension's block): the slots of this frame may have changed too, the records at ch may have turned -/
theorem Inv.call {g' : Array GenState} {t' : Nat} {d' : Drawn} {ch : List Addr} (I : Inv X pins σ H s) (u : Un (frs X.stack) ch H H' s.heap h') (hok : HOk X.prog X.w H' h') (hg : AllBare g')
    (hch : ∀ b ∈ ch, (b ∈ X.ex ∨ X.s₀.heap.objs.size ≤ b) ∧ b ≠ X.env.locals ∧ (∀ x c, X.env.cells.lookup x = some c → c ≠ b) ∧ ∀ p ∈ X.pn ++ pins, p.1 ≠ b) :
    Inv X pins σ H' { s with heap := h', gens := g', drawn := d', toks := t' } := by
  obtain ⟨m, ⟨o, es, ep, ho, r⟩, _⟩ := id I.loc
  obtain ⟨sl, hL⟩ := u.any ho I.free fun z => (hch _ z).2.1 rfl
  exact I.step (ch := ch) hch (fun b o hL hb hc e n => u.keep b o e n (fun z => (List.mem_cons.mp (I.stkSub b z)).elim hL hb) hc) (fun b o _ _ hc e n => u.any e n hc) (fun b o hc e n => u.free b o e n hc) (fun b o hc e => u.there b o e hc) u.tups u.frzs u.tbls (fun m' hm => by
    obtain ⟨o', es', ep', ho', r'⟩ := hm
    rw [ho] at ho'; cases ho'
    exact ⟨_, es', ep', hL, r'⟩) hok hg
/-- an untracked record of ours (an iterator) has turned -/
theorem Inv.turned {t' : Nat} {it : Addr} (I : Inv X pins σ H s) (k : ∀ b o, b ≠ it → s.heap.get? b = some o → h'.get? b = some o) (hn : H it = none) (hL : it ≠ X.env.locals)
    (h1 : it ∈ X.ex ∨ X.s₀.heap.objs.size ≤ it) (h2 : ∀ x c, X.env.cells.lookup x = some c → c ≠ it) (h3 : ∀ p ∈ X.pn ++ pins, p.1 ≠ it) : Inv X pins σ H { s with heap := h', toks := t' } := by
  have nit : ∀ b u, H b = some u → b ≠ it := fun b u e z => by rw [z, hn] at e; cases e
  refine I.step (g' := s.gens) (d' := s.drawn) (ch := [it]) (fun b hb => ?_) (fun b o _ _ hc e _ => k b o (fun z => hc (by simp [z])) e) (fun b o _ _ hc e _ => ⟨o.slots, k b o (fun z => hc (by simp [z])) e⟩) (fun _ _ _ _ n => n)
    (fun b o hc e => ⟨o, k b o (fun z => hc (by simp [z])) e⟩) (fun _ _ e => e) (fun _ _ _ e => e) (fun b ps e => ⟨#[], by rw [e]; simp⟩) (fun m hm => ?_) (fun b u e => ?_) I.bare
  · have e : b = it := by simpa using hb
    subst e
    exact ⟨h1, hL, h2, h3⟩
  · obtain ⟨o, es, ep, ho, r⟩ := hm
    exact ⟨o, es, ep, k _ o (Ne.symm hL) ho, r⟩
  · refine (I.hok b u e).stay (fun c v hc q => k c v ?_ q) (fun _ q => q) fun _ _ q => q
    rcases hc with z | z
    · rw [z]; exact nit b u e
    · exact nit c _ z
theorem Inv.tok (I : Inv X pins σ H s) (t : Nat) : Inv X pins σ H { s with toks := t } := I.un (h' := s.heap) (t' := t) Un.refl I.hok
/-- all objects kept -/
theorem Inv.kept {t' : Nat} (I : Inv X pins σ H s) (k : ∀ b u, s.heap.get? b = some u → h'.get? b = some u) : Inv X pins σ H { s with heap := h', toks := t' } := I.un (Un.kept k) (I.hok.kept k)
/-- a new object laid and tracked -/
theorem Inv.laid {a : Addr} {o : HO} {t' : Nat} (I : Inv X pins σ H s) (k : ∀ b u, s.heap.get? b = some u → h'.get? b = some u) (hp : s.heap.objs.size ≤ a) (new : ObjOk X.prog X.w (upd H a o) h' a o) :
    Inv X pins σ (upd H a o) { s with heap := h', toks := t' } := I.un (Un.laid k hp (I.hok.fresh hp)) (I.hok.laid k hp new)
/-- an object written -/
theorem Inv.write {x e : Addr} {o : HO} {t' : Nat} (I : Inv X pins σ H s) (mu : Mut (H x)) (he : e = x ∨ H e = some (.own x)) (k : ∀ b u, b ≠ e → s.heap.get? b = some u → h'.get? b = some u) (heo : ∃ u, h'.get? e = some u)
    (new : ObjOk X.prog X.w (upd H x o) h' x o) : Inv X pins σ (upd H x o) { s with heap := h', toks := t' } := I.un (Un.write mu he k heo) (I.hok.write mu he k heo new)
/-- forgetting slots, pins -/
theorem Inv.weak {σ' : List (Option V)} (I : Inv X pins σ H s) (hl : σ'.length = σ.length) (w : ∀ (i : Nat) v, σ'[i]? = some (some v) → σ[i]? = some (some v)) : Inv X pins σ' H s :=
  ⟨I.ok, I.os, I.bare, I.base, let ⟨m, hn, hl'⟩ := I.loc; ⟨m, hn, fun i x v e1 e2 e3 => hl' i x v e1 (w i v e2) e3⟩, I.cell, I.free, I.freeC, I.pin, I.hok, hl.trans I.len⟩
theorem Inv.pins_of {pins' : List (Addr × Obj)} (I : Inv X pins σ H s) (h : ∀ p ∈ pins', s.heap.get? p.1 = some p.2 ∧ H p.1 = none ∧ p.1 ≠ X.env.locals ∧ p.1 ∉ X.fs ∧ ∀ v, p.2.data ≠ .cell v) : Inv X pins' σ H s :=
  ⟨I.ok, I.os, I.bare, I.base, I.loc, I.cell, I.free, I.freeC, fun p hp => (List.mem_append.mp hp).elim (fun z => I.pin p (List.mem_append_left _ z)) (h p), I.hok, I.len⟩

theorem nodup_ix {N : List Str} (hN : N.Nodup) {i j : Nat} {x : Str} (a : N[i]? = some x) (b : N[j]? = some x) : i = j := by
  obtain ⟨h1, e1⟩ := List.getElem?_eq_some_iff.mp a
  obtain ⟨h2, e2⟩ := List.getElem?_eq_some_iff.mp b
  exact (List.getElem_inj hN).mp (e1.trans e2.symm)

/-- a name is stored; what changed -/
theorem store_ok2 {M : Model} {A : Around} {E : Value → Shared → Prop} {i : Nat} {x : Str} {v : V} {u : Value} {Q : Unit → Shared → Prop} (I : Inv X pins σ H s) (hN : X.N.Nodup) (hi : X.N[i]? = some x) (hx : Loc X.env.scope x) (r : RelV v u)
    (h : ∀ s', Inv X pins (σ.set i (some v)) H s' → (∃ a, Heap.SameBut a s.heap s'.heap ∧ (a = X.env.locals ∨ X.env.cells.lookup x = some a)) → Q () s') (hf : X.fn x = true ∨ X.env.scope.names.lookup x = some .local := by first | exact .inl rfl | exact .inr rfl | assumption) : wpAny M A (storeName X.env x u) Q E s := by
  obtain ⟨m, hn, hl⟩ := id I.loc
  have hcls : (X.env.scope.kind == .class || (X.env.scope.kind == .module && X.env.locals != X.env.globals)) = false := by rw [I.ok.kind]; rfl
  have hiσ : i < σ.length := by rw [I.len]; exact (List.getElem?_eq_some_iff.mp hi).1
  have cne := I.cne
  have tracked : ∀ {a : Addr} {h' : Heap}, (∃ o, s.heap.get? a = some o ∧ H a = none) → Heap.SameBut a s.heap h' → HOk X.prog X.w H h' := fun {a h'} ha hs b ob e => by
    obtain ⟨_, _, hfree⟩ := ha
    refine (I.hok b ob e).stay (fun c w' hc q => (hs.2 c ?_).trans q) (fun _ q => q) fun _ _ q => q
    rintro rfl
    rcases hc with rfl | hc
    · rw [hfree] at e; cases e
    · rw [hfree] at hc; cases hc
  rcases hx with hk | hk
  · refine wpAny_storeName_local hk hn (fun h' hn' hs => ?_) hcls
    obtain ⟨oL, _, _, hoL, _⟩ := id hn
    refine h _ ⟨I.ok, I.os, I.bare, ⟨fun b o e n hb hx => ?_, fun b o e n hb hx => ?_, I.base.free, fun b o e hx => ?_, I.base.tups, I.base.frzs, I.base.tbls⟩, ⟨_, hn', fun j y v' e1 e2 e3 => ?_⟩, fun y c e => ?_, I.free, I.freeC, fun p hp => ?_, tracked ⟨oL, hoL, I.free⟩ hs, by simpa using I.len⟩ ⟨_, hs, .inl rfl⟩
    · exact (hs.2 b (Nat.ne_of_lt (Nat.lt_of_lt_of_le (Heap.lt_size e) I.ok.above))).trans (I.base.keep b o e n hb hx)
    · obtain ⟨sl, e1⟩ := I.base.slot b o e n hb hx
      exact ⟨sl, (hs.2 b (Nat.ne_of_lt (Nat.lt_of_lt_of_le (Heap.lt_size e) I.ok.above))).trans e1⟩
    · obtain ⟨o', e1⟩ := I.base.there b o e hx
      exact ⟨o', (hs.2 b (Nat.ne_of_lt (Nat.lt_of_lt_of_le (Heap.lt_size e) I.ok.above))).trans e1⟩
    · by_cases hj : j = i
      · subst hj
        rw [hi] at e1; cases e1
        rw [List.getElem?_set_self hiσ] at e2
        cases e2
        exact ⟨u, r, .inl ⟨hk, by simp⟩⟩
      · rw [List.getElem?_set_ne (Ne.symm hj)] at e2
        obtain ⟨u', r', q⟩ := hl j y v' e1 e2 e3
        refine ⟨u', r', ?_⟩
        rcases q with ⟨k, e⟩ | ⟨k, c, e, z⟩
        · refine .inl ⟨k, ?_⟩
          have : y ≠ x := fun e => hj (nodup_ix hN e1 (e ▸ hi))
          simp [this, e]
        · exact .inr ⟨k, c, e, z.sameBut hs (cne y c e)⟩
    · obtain ⟨w', z⟩ := I.cell y c e
      exact ⟨w', z.sameBut hs (cne y c e)⟩
    · obtain ⟨e, n, ne, nf, d⟩ := I.pin p hp
      exact ⟨(hs.2 p.1 ne).trans e, n, ne, nf, d⟩
  · have hfn : X.fn x = true := by
      rcases hf with z | z
      · exact z
      · rw [z] at hk; cases hk
    obtain ⟨c, hc⟩ := I.ok.has x (.inl hk)
    obtain ⟨w', z⟩ := I.cell x c hc
    refine wpAny_storeName_cell I.ok.kind hk hc z (fun h' hc' hs => ?_)
    obtain ⟨oc, hoc, hocd⟩ := id z
    refine h { s with heap := h' } ⟨I.ok, I.os, I.bare, ⟨fun b o e n hb hx => ?_, fun b o e n hb hx => ?_, I.base.free, fun b o e hx => ?_, I.base.tups, I.base.frzs, I.base.tbls⟩, ⟨m, hn.sameBut hs (Ne.symm (cne x c hc)), fun j y v' e1 e2 e3 => ?_⟩, fun y c' e => ?_, I.free, I.freeC, fun p hp => ?_, tracked ⟨oc, hoc, I.freeC x c hc⟩ hs, by simpa using I.len⟩ ⟨c, hs, .inr hc⟩
    · exact (hs.2 b (Nat.ne_of_lt (Nat.lt_of_lt_of_le (Heap.lt_size e) (I.ok.cab x c hfn hc)))).trans (I.base.keep b o e n hb hx)
    · obtain ⟨sl, e1⟩ := I.base.slot b o e n hb hx
      exact ⟨sl, (hs.2 b (Nat.ne_of_lt (Nat.lt_of_lt_of_le (Heap.lt_size e) (I.ok.cab x c hfn hc)))).trans e1⟩
    · obtain ⟨o', e1⟩ := I.base.there b o e hx
      exact ⟨o', (hs.2 b (Nat.ne_of_lt (Nat.lt_of_lt_of_le (Heap.lt_size e) (I.ok.cab x c hfn hc)))).trans e1⟩
    · by_cases hj : j = i
      · subst hj
        rw [hi] at e1; cases e1
        rw [List.getElem?_set_self hiσ] at e2
        cases e2
        exact ⟨u, r, .inr ⟨.inl hk, c, hc, hc'⟩⟩
      · rw [List.getElem?_set_ne (Ne.symm hj)] at e2
        obtain ⟨u', r', q⟩ := hl j y v' e1 e2 e3
        refine ⟨u', r', ?_⟩
        rcases q with q | ⟨k, c', e, z'⟩
        · exact .inl q
        · refine .inr ⟨k, c', e, z'.sameBut hs ?_⟩
          rintro rfl
          exact hj (nodup_ix hN e1 (I.ok.inj _ _ _ e hc ▸ hi))
    · by_cases hcc : c' = c
      · subst hcc; exact ⟨_, hc'⟩
      · obtain ⟨w2, z2⟩ := I.cell y c' e
        exact ⟨w2, z2.sameBut hs hcc⟩
    · obtain ⟨e, n, ne, nf, d⟩ := I.pin p hp
      refine ⟨(hs.2 p.1 ?_).trans e, n, ne, nf, d⟩
      intro q
      rw [q, hoc] at e
      have q' : oc = p.2 := Option.some.inj e
      exact d w' (by rw [← q']; exact hocd)
theorem store_ok {M : Model} {A : Around} {E : Value → Shared → Prop} {i : Nat} {x : Str} {v : V} {u : Value} {Q : Unit → Shared → Prop} (I : Inv X pins σ H s) (hN : X.N.Nodup) (hi : X.N[i]? = some x) (hx : Loc X.env.scope x) (r : RelV v u)
    (h : ∀ s', Inv X pins (σ.set i (some v)) H s' → Q () s') (hf : X.fn x = true ∨ X.env.scope.names.lookup x = some .local := by first | exact .inl rfl | exact .inr rfl | assumption) : wpAny M A (storeName X.env x u) Q E s :=
  store_ok2 I hN hi hx r (fun s' I' _ => h s' I') hf
/-- behind a call or a block, the state as it is -/
theorem Inv.call' {s' : Shared} {ch : List Addr} (I : Inv X pins σ H s) (ho : s'.os = s.os) (u : Un (frs X.stack) ch H H' s.heap s'.heap) (hok : HOk X.prog X.w H' s'.heap) (hg : AllBare s'.gens)
    (hch : ∀ b ∈ ch, (b ∈ X.ex ∨ X.s₀.heap.objs.size ≤ b) ∧ b ≠ X.env.locals ∧ (∀ x c, X.env.cells.lookup x = some c → c ≠ b) ∧ ∀ p ∈ X.pn ++ pins, p.1 ≠ b) : Inv X pins σ H' s' := by
  obtain ⟨h', g', d', t', o'⟩ := s'
  have e : o' = s.os := ho
  subst e
  exact I.call (g' := g') (t' := t') (d' := d') u hok hg hch
end

/-! ### the judgements -/
/-- an exception: its class, its own dict's address (where it has one), the abstract heap behind it -/
abbrev XK := Value → Option Addr → Hp → Prop
abbrev St := List (Option V)
abbrev VK := V → Hp → Prop
/-- an expression's reading; a test's; an argument list's -/
abbrev TE := St → Hp → VK → Prop
abbrev TT := St → Hp → (Bool → Hp → Prop) → Prop
abbrev TA := St → Hp → (List V → Hp → Prop) → Prop
/-- what is wanted behind a statement -/
structure Ends where
  nx : St → Hp → Prop
  rt : VK
  bk : St → Hp → Prop := fun _ _ => False
  ct : St → Hp → Prop := fun _ _ => False
abbrev TS := Ends → St → Hp → Prop

def EP (X : Cx) (pins : List (Addr × Obj)) (σ : St) (Q : VK) (u : Value) (s' : Shared) : Prop := ∃ v H', Inv X pins σ H' s' ∧ RelV v u ∧ Q v H'
def TP (X : Cx) (pins : List (Addr × Obj)) (σ : St) (Q : Bool → Hp → Prop) (b : Bool) (s' : Shared) : Prop := ∃ H', Inv X pins σ H' s' ∧ Q b H'
def AP (X : Cx) (pins : List (Addr × Obj)) (σ : St) (Q : List V → Hp → Prop) (us : List Value) (s' : Shared) : Prop := ∃ vs H', Inv X pins σ H' s' ∧ Vals vs us ∧ Q vs H'
def SP (X : Cx) (pins : List (Addr × Obj)) (D : Ends) (f : Flow) (s' : Shared) : Prop :=
  match f with
  | .next => ∃ σ' H', Inv X pins σ' H' s' ∧ D.nx σ' H'
  | .brk => ∃ σ' H', Inv X pins σ' H' s' ∧ D.bk σ' H'
  | .cont => ∃ σ' H', Inv X pins σ' H' s' ∧ D.ct σ' H'
  | .ret u => ∃ v σ' H', Inv X pins σ' H' s' ∧ RelV v u ∧ D.rt v H'

def PE (X : Cx) (e : Expr) (t : TE) : Prop :=
  ∀ (pins : List (Addr × Obj)) (s : Shared) (σ : St) (H : Hp) (Q : VK), Inv X pins σ H s → t σ H Q → wpAny (model X.prog X.w) X.A (eval e X.env) (EP X pins σ Q) X.xe s
def PT (X : Cx) (e : Expr) (t : TT) : Prop :=
  ∀ (pins : List (Addr × Obj)) (s : Shared) (σ : St) (H : Hp) (Q : Bool → Hp → Prop), Inv X pins σ H s → t σ H Q → wpAny (model X.prog X.w) X.A (isTrue e X.env (eval e X.env)) (TP X pins σ Q) X.xe s
/-- a test whatever its 'whole' is (and, or) -/
def PW (X : Cx) (e : Expr) (t : TT) : Prop :=
  ∀ (whole : Sem Value) (pins : List (Addr × Obj)) (s : Shared) (σ : St) (H : Hp) (Q : Bool → Hp → Prop), Inv X pins σ H s → t σ H Q → wpAny (model X.prog X.w) X.A (isTrue e X.env whole) (TP X pins σ Q) X.xe s
theorem PW.pt {X : Cx} {e : Expr} {t : TT} (h : PW X e t) : PT X e t := h _
/-- an argument list (no star), from the left -/
def PA (X : Cx) (es : List Expr) (t : TA) : Prop :=
  ∀ (pos : Pos) (pins : List (Addr × Obj)) (s : Shared) (σ : St) (H : Hp) (Q : List V → Hp → Prop), Inv X pins σ H s → t σ H Q → wpAny (model X.prog X.w) X.A (spliced (backTo pos (starEach es X.env))) (AP X pins σ Q) X.xe s
def PS (X : Cx) (st : Stmt) (t : TS) : Prop :=
  ∀ (pins : List (Addr × Obj)) (s : Shared) (σ : St) (H : Hp) (D : Ends), Inv X pins σ H s → t D σ H → wpAny (model X.prog X.w) X.A (exec st X.env) (SP X pins D) X.xe s
def PSs (X : Cx) (st : List Stmt) (t : TS) : Prop :=
  ∀ (pins : List (Addr × Obj)) (s : Shared) (σ : St) (H : Hp) (D : Ends), Inv X pins σ H s → t D σ H → wpAny (model X.prog X.w) X.A (execs st X.env) (SP X pins D) X.xe s
/-- weaken the end -/
theorem thn {α : Type} {t : Sem α} {Q Q' : α → Shared → Prop} {M : Model} {A : Around} {E : Value → Shared → Prop} {s : Shared} (h : wpAny M A t Q E s) (hQ : ∀ a s, Q a s → Q' a s) : wpAny M A t Q' E s := wpAny_mono h hQ fun _ _ x => x
end L2

namespace L2
open PySem PySem.Spec PyProof.Rows
section
variable {X : Cx}


/-! ### names and constants -/
def tVar (i : Nat) : TE := fun σ H Q => ∃ v, σ[i]? = some (some v) ∧ Q v H
def tC (v : V) : TE := fun _ H Q => Q v H
theorem pe_var {i : Nat} {x : Str} {pos : Pos} (hN : X.N[i]? = some x) (hv : Vis X.env.scope x) (hd : (x == ("__debug__" : Str)) = false := by decide) (hcd : (x == ("__classdict__" : Str)) = false := by decide) : PE X (.Name x pos) (tVar i) := by
  intro pins s σ H Q I h
  obtain ⟨v, e, h⟩ := h
  obtain ⟨m, hn, hl⟩ := I.loc
  obtain ⟨u, r, l⟩ := hl i x v hN e hv
  have fin : EP X pins σ Q u s := ⟨v, H, I, r, h⟩
  rcases l with ⟨hk, hm⟩ | ⟨hk, c, hc, hcell⟩
  · exact wpAny_Name (wpAny_loadName_local I.ok.kind hk hn hm fin) hd
  · rcases hk with hk | hk
    · exact wpAny_Name (wpAny_loadName_cell I.ok.kind hk hc hcell fin) hd
    · exact wpAny_Name (wpAny_loadName_free I.ok.kind hk hc hcell fin hcd) hd
theorem pe_int {i j pos} : PE X (.Constant (.int i) j pos) (tC (.int i)) := fun _ _ _ H _ I h => wpAny_Constant_int ⟨.int i, H, I.tok _, ⟨_, rfl⟩, h⟩
theorem pe_bl {b j pos} : PE X (.Constant (.bool b) j pos) (tC (.bl b)) := fun _ _ _ H _ I h => Constant_bool ⟨.bl b, H, I, rfl, h⟩
theorem pe_non {j pos} : PE X (.Constant .none j pos) (tC .non) := fun _ _ _ H _ I h => Constant_none ⟨.non, H, I, rfl, h⟩

/-- a global name of the def -/
def Gl (X : Cx) (x : Str) : Prop := X.env.kindOf x = some .globalImplicit
theorem ld_glob {E : Value → Shared → Prop} {pins : List (Addr × Obj)} {s : Shared} {σ : St} {H : Hp} {x : Str} {u : Value} {pos : Pos} {Q : Value → Shared → Prop} (I : Inv X pins σ H s) (hg : Gl X x) (hm : X.mg x = some u) (h : Q u s)
    (hd : (x == ("__debug__" : Str)) = false := by decide) : wpAny (model X.prog X.w) X.A (eval (.Name x pos) X.env) Q E s :=
  Calls.Name_function_global I.ok.kind hg (Calls.loadGlobal_global (by rw [I.ok.glob]; exact I.mod.glob.keeps I.bk) hm h) hd
theorem ld_blt {E : Value → Shared → Prop} {pins : List (Addr × Obj)} {s : Shared} {σ : St} {H : Hp} {x : Str} {u : Value} {pos : Pos} {Q : Value → Shared → Prop} (I : Inv X pins σ H s) (hg : Gl X x) (hm : X.mg x = none) (hv : bootBuiltins x = some u) (h : Q u s)
    (hn : x ≠ "__name__" := by decide) (hd : (x == ("__debug__" : Str)) = false := by decide) : wpAny (model X.prog X.w) X.A (eval (.Name x pos) X.env) Q E s := by
  obtain ⟨mb, h1, h2⟩ := I.mod.blt
  exact Calls.Name_function_global I.ok.kind hg (Calls.loadGlobal_builtin (by rw [I.ok.glob]; exact I.mod.glob.keeps I.bk) hm (by rw [I.ok.blt]; exact h1.keeps I.bk) ((h2 x hn).trans hv) h) hd
/-- a module's constant, a class, a function, as a value -/
theorem pe_glob {x : Str} {v : V} {u : Value} {pos : Pos} (hg : Gl X x) (hm : X.mg x = some u) (r : RelV v u) (hd : (x == ("__debug__" : Str)) = false := by decide) : PE X (.Name x pos) (tC v) :=
  fun _ _ _ H _ I h => ld_glob I hg hm ⟨v, H, I, r, h⟩ hd
theorem pe_bltn {x : Str} {v : V} {u : Value} {pos : Pos} (hg : Gl X x) (hm : X.mg x = none) (hv : bootBuiltins x = some u) (r : RelV v u) (hn : x ≠ "__name__" := by decide) (hd : (x == ("__debug__" : Str)) = false := by decide) : PE X (.Name x pos) (tC v) :=
  fun _ _ _ H _ I h => ld_blt I hg hm hv ⟨v, H, I, r, h⟩ hn hd

/-! ### arithmetic -/
variable {a b : Expr} {ta tb : TE} {pos : Pos}

/-! ### comparisons -/
def PC (X : Cx) (op : CmpOp) (a b : Expr) (t : TE) : Prop :=
  ∀ (pins : List (Addr × Obj)) (s : Shared) (σ : St) (H : Hp) (Q : VK), Inv X pins σ H s → t σ H Q →
    wpAny (model X.prog X.w) X.A (eval a X.env) (fun v s₁ => wpAny (model X.prog X.w) X.A (eval b X.env) (fun u s₂ => wpAny (model X.prog X.w) X.A (compareOp op v u) (EP X pins σ Q) X.xe s₂) X.xe s₁) X.xe s
/-- a comparison as a value, as a test -/
def tB (t : TE) : TT := fun σ H Q => t σ H fun x H1 => ∃ c, x = .bl c ∧ Q c H1
theorem pe_cmp {op : CmpOp} {t : TE} (h : PC X op a b t) (h1 : behindInMarks op b = false := by first | exact nobehind _ (by decide) (by decide) | rfl) : PE X (.Compare a [op] [b] pos) t := fun pins s σ H Q I hw => wpAny_Compare1 (h pins s σ H Q I hw) h1
theorem pt_cmp {op : CmpOp} {t : TE} (h : PC X op a b t) (h1 : behindInMarks op b = false := by first | exact nobehind _ (by decide) (by decide) | rfl) : PT X (.Compare a [op] [b] pos) (tB t) := by
  intro pins s σ H Q I hw
  refine wpAny_isTrue_Compare1 (thn (h pins s σ H _ I hw) fun v s1 h1 => thn h1 fun u s2 h2 => thn h2 fun c s3 ⟨x, H1, I1, r1, q1⟩ => ?_) h1
  obtain ⟨d, rfl, q⟩ := q1
  cases r1
  exact wpAny_truthy_bool ⟨H1, I1, q⟩
/-- an expression whose value is a bool, as a test -/
theorem pt_val {e : Expr} {t : TE} (h : PE X e t) (he : ∀ whole, isTrue e X.env whole = (do let v ← whole; standAt e.pos; holding [v] (truthy v)) := by intro _; rfl) : PT X e (tB t) := by
  intro pins s σ H Q I hw
  refine isTrue_plain (thn (h pins s σ H _ I hw) fun v s1 ⟨x, H1, I1, r1, q1⟩ => ?_) (he _)
  obtain ⟨d, rfl, q⟩ := q1
  cases r1
  exact wpAny_truthy_bool ⟨H1, I1, q⟩

/-! ### and, or, not -/
variable {tA tB' : TT} {rest : List Expr}
def tOr (t u : TT) : TT := fun σ H Q => t σ H fun c H1 => if c = true then Q true H1 else u σ H1 Q
def tNot (t : TT) : TT := fun σ H Q => t σ H fun c H1 => Q (!c) H1
theorem pw_or1 (ha : PT X a tA) : PW X (.BoolOp .Or [a] pos) tA := by
  intro wh pins s σ H Q I h
  refine isTrue_or (thn (ha pins s σ H Q I h) fun c s1 e => ?_)
  cases c with
  | false => exact isTrue_or_nil e
  | true => exact e
theorem pw_or (ha : PT X a tA) (hb : PW X (.BoolOp .Or (b :: rest) pos) tB') : PW X (.BoolOp .Or (a :: b :: rest) pos) (tOr tA tB') := by
  intro wh pins s σ H Q I h
  refine isTrue_or (thn (ha pins s σ H _ I h) fun c s1 ⟨H1, I1, q1⟩ => ?_)
  cases c with
  | true => exact ⟨H1, I1, q1⟩
  | false => exact hb wh pins s1 σ H1 Q I1 q1
theorem pt_not (ha : PT X a tA) : PT X (.UnaryOp .Not a pos) (tNot tA) := by
  intro pins s σ H Q I h
  exact isTrue_not (ha pins s σ H (fun c H1 => Q (!c) H1) I h)
/-- .. as values (bools) -/
def tAndV (ta tb : TE) : TE := fun σ H Q => ta σ H fun x H1 => ∃ c, x = .bl c ∧ if c = true then tb σ H1 Q else Q (.bl false) H1
def tOrV (ta tb : TE) : TE := fun σ H Q => ta σ H fun x H1 => ∃ c, x = .bl c ∧ if c = true then Q (.bl true) H1 else tb σ H1 Q
def tNotV (ta : TE) : TE := fun σ H Q => ta σ H fun x H1 => ∃ c, x = .bl c ∧ Q (.bl (!c)) H1
theorem pe_one {op} {t : TE} (h : PE X a t) : PE X (.BoolOp op [a] pos) t := fun pins s σ H Q I hw => BoolOp_one (h pins s σ H Q I hw)
theorem pe_and (ha : PE X a ta) (hb : PE X (.BoolOp .And (b :: rest) pos) tb) : PE X (.BoolOp .And (a :: b :: rest) pos) (tAndV ta tb) := by
  intro pins s σ H Q I h
  refine BoolOp_and (thn (ha pins s σ H _ I h) fun v s1 ⟨x, H1, I1, r1, q1⟩ => ?_)
  obtain ⟨c, rfl, q1⟩ := q1
  cases r1
  refine wpAny_truthy_bool ?_
  cases c with
  | true => exact hb pins s1 σ H1 Q I1 q1
  | false => exact ⟨.bl false, H1, I1, rfl, q1⟩
theorem pe_or (ha : PE X a ta) (hb : PE X (.BoolOp .Or (b :: rest) pos) tb) : PE X (.BoolOp .Or (a :: b :: rest) pos) (tOrV ta tb) := by
  intro pins s σ H Q I h
  refine BoolOp_or (thn (ha pins s σ H _ I h) fun v s1 ⟨x, H1, I1, r1, q1⟩ => ?_)
  obtain ⟨c, rfl, q1⟩ := q1
  cases r1
  refine wpAny_truthy_bool ?_
  cases c with
  | false => exact hb pins s1 σ H1 Q I1 q1
  | true => exact ⟨.bl true, H1, I1, rfl, q1⟩
theorem pe_not (ha : PE X a ta) : PE X (.UnaryOp .Not a pos) (tNotV ta) := by
  intro pins s σ H Q I h
  refine UnaryOp_ (thn (ha pins s σ H _ I h) fun v s1 ⟨x, H1, I1, r1, q1⟩ => ?_)
  obtain ⟨c, rfl, q1⟩ := q1
  cases r1
  exact not_of (wpAny_truthy_bool ⟨.bl (!c), H1, I1, rfl, q1⟩)
end
end L2

namespace L2
open PySem PySem.Spec PyProof.Rows

/-! ### a list, a tuple that is read: tracked, frozen, or an object of the module -/
def SqL (K : PySem.W.Frag) (H : Hp) (a : Addr) (xs : List V) : Prop :=
  Rd H a (.lst xs) ∨
    ∃ (o : Obj) (its : Array Value) (n : Nat), K.lookup a = some o ∧ o.cls = .type "list" ∧ o.dict = none ∧ o.data = .seq its n ∧ its.size ≤ sizeLine ∧ Vals xs its.toList
def SqT (K : PySem.W.Frag) (H : Hp) (a : Addr) (xs : List V) : Prop :=
  Rd H a (.tup xs) ∨
    ∃ (o : Obj) (its : Array Value) (n : Nat), K.lookup a = some o ∧ o.cls = .type "tuple" ∧ o.data = .seq its n ∧ its.size ≤ sizeLine ∧ Vals xs its.toList
def absV : Value → Option V
  | .none => some .non
  | .bool b => some (.bl b)
  | .int i _ => some (.int i)
  | .str x _ => some (.str x)
  | .bytes b _ => some (.byt b)
  | .float b _ => some (.flt b)
  | .ref a => some (.ref a)
  | .type n => some (.ty n)
  | _ => none
theorem RelV.abs {x : V} {u : Value} (r : RelV x u) : absV u = some x := by
  cases x with
  | non => cases r; rfl
  | bl _ => cases r; rfl
  | int _ => obtain ⟨t, rfl⟩ := r; rfl
  | str _ => obtain ⟨t, rfl⟩ := r; rfl
  | byt _ => obtain ⟨t, rfl⟩ := r; rfl
  | flt _ => obtain ⟨t, rfl⟩ := r; rfl
  | ref _ => cases r; rfl
  | ty _ => cases r; rfl
theorem RelV.inj {x y : V} {u : Value} (r : RelV x u) (q : RelV y u) : x = y := Option.some.inj (r.abs.symm.trans q.abs)
theorem Vals.inj : ∀ {xs ys : List V} {us : List Value}, Vals xs us → Vals ys us → xs = ys
  | _, _, _, .nil, .nil => rfl
  | _, _, _, .cons r t, .cons r' t' => by rw [r.inj r', Vals.inj t t']
section
variable {X : Cx} {pins : List (Addr × Obj)} {σ : St} {H : Hp} {s : Shared} {a : Addr} {xs ys : List V}
theorem SqL.of {K : PySem.W.Frag} (h : H a = some (.lst xs)) : SqL K H a xs := .inl (.inl h)
theorem SqT.of {K : PySem.W.Frag} (h : H a = some (.tup xs)) : SqT K H a xs := .inl (.inl h)
theorem Inv.list (I : Inv X pins σ H s) (h : SqL X.K H a xs) : ∃ its : List Value, Vals xs its ∧ PlainL s.heap a its.toArray ∧ xs.length ≤ sizeLine := by
  rcases h with h | ⟨o, its, n, hk, hc, hd, hs, hz, r⟩
  · obtain ⟨z, its, n, r, e⟩ := h.ok I.hok
    exact ⟨its, r, ⟨_, n, e, rfl, rfl, rfl⟩, z⟩
  · refine ⟨its.toList, r, ⟨o, n, I.kIn a o hk, hc, hd, by simpa using hs⟩, ?_⟩
    have e := r.length
    simp only [Array.length_toList] at e
    omega
theorem Inv.tuple (I : Inv X pins σ H s) (h : SqT X.K H a xs) : ∃ its : List Value, Vals xs its ∧ IsTup s.heap a its.toArray ∧ xs.length ≤ sizeLine := by
  rcases h with h | ⟨o, its, n, hk, hc, hs, hz, r⟩
  · obtain ⟨z, its, r, p⟩ := h.ok I.hok
    exact ⟨its, r, p, z⟩
  · refine ⟨its.toList, r, ⟨o, I.kIn a o hk, hc, n, by simpa using hs⟩, ?_⟩
    have e := r.length
    simp only [Array.length_toList] at e
    omega
theorem Inv.list_inj (I : Inv X pins σ H s) (h : SqL X.K H a xs) (h' : SqL X.K H a ys) : xs = ys := by
  obtain ⟨its, r, ⟨o, n, e, _, _, d⟩, _⟩ := I.list h
  obtain ⟨its', r', ⟨o', n', e', _, _, d'⟩, _⟩ := I.list h'
  rw [e] at e'; cases e'
  rw [d] at d'
  injection d' with d1 _
  have : its = its' := by simpa using congrArg Array.toList d1
  subst this
  exact r.inj r'
theorem Inv.tuple_inj (I : Inv X pins σ H s) (h : SqT X.K H a xs) (h' : SqT X.K H a ys) : xs = ys := by
  obtain ⟨its, r, ⟨o, e, _, n, d⟩, _⟩ := I.tuple h
  obtain ⟨its', r', ⟨o', e', _, n', d'⟩, _⟩ := I.tuple h'
  rw [e] at e'; cases e'
  rw [d] at d'
  injection d' with d1 _
  have : its = its' := by simpa using congrArg Array.toList d1
  subst this
  exact r.inj r'
end

/-! ### another wish about exceptions -/
abbrev Cx.wish (X : Cx) (E : Value → Shared → Prop) : Cx := { X with xe := E }
/-- no exception leaves -/
abbrev Cx.nox (X : Cx) : Cx := X.wish fun _ _ => False
theorem Cx.Ok.wish {X : Cx} (ok : X.Ok) (E : Value → Shared → Prop) : (X.wish E).Ok :=
  ⟨ok.mod, ok.kind, ok.glob, ok.blt, ok.above, ok.inj, ok.has, ok.cab, ok.hd, ok.frames, ok.stk, ok.exf, ok.bs, ok.bsz, ok.noex, ok.exfs, ok.funs, ok.frf⟩
theorem Cx.Ok.unwish {X : Cx} {E : Value → Shared → Prop} (ok : (X.wish E).Ok) : X.Ok :=
  ⟨ok.mod, ok.kind, ok.glob, ok.blt, ok.above, ok.inj, ok.has, ok.cab, ok.hd, ok.frames, ok.stk, ok.exf, ok.bs, ok.bsz, ok.noex, ok.exfs, ok.funs, ok.frf⟩
section
variable {X : Cx} {pins : List (Addr × Obj)} {σ : St} {H : Hp} {s : Shared} {E : Value → Shared → Prop}
theorem Inv.wish (I : Inv X pins σ H s) (E : Value → Shared → Prop) : Inv (X.wish E) pins σ H s := ⟨I.ok.wish E, I.os, I.bare, I.base, I.loc, I.cell, I.free, I.freeC, I.pin, I.hok, I.len⟩
theorem Inv.unwish (I : Inv (X.wish E) pins σ H s) : Inv X pins σ H s := ⟨I.ok.unwish, I.os, I.bare, I.base, I.loc, I.cell, I.free, I.freeC, I.pin, I.hok, I.len⟩
theorem SP.unwish {D : Ends} {f : Flow} {s' : Shared} (h : SP (X.wish E) pins D f s') : SP X pins D f s' := by
  cases f with
  | next => obtain ⟨σ', H', I, q⟩ := h; exact ⟨σ', H', I.unwish, q⟩
  | brk => obtain ⟨σ', H', I, q⟩ := h; exact ⟨σ', H', I.unwish, q⟩
  | cont => obtain ⟨σ', H', I, q⟩ := h; exact ⟨σ', H', I.unwish, q⟩
  | ret u => obtain ⟨v, σ', H', I, r, q⟩ := h; exact ⟨v, σ', H', I.unwish, r, q⟩
theorem PSs.nox {st : List Stmt} {t : TS} (h : PSs X.nox st t) : PSs X st t := fun pins s σ H D I hw =>
  wpAny_mono (h pins s σ H D (I.wish _) hw) (fun _ _ q => q.unwish) fun _ _ z => False.elim z
end

/-! ### blocks and small statements -/
section
variable {X : Cx} {st : Stmt} {rest : List Stmt} {t u : TS} {e : Expr} {te : TE} {pos : Pos}
def tNext : TS := fun D σ H => D.nx σ H
def tSeq (t u : TS) : TS := fun D σ H => t { D with nx := u D } σ H
theorem pss_nil : PSs X [] tNext := fun _ _ σ H _ I h => wpAny_execs_nil ⟨σ, H, I, h⟩
theorem pss_cons (h1 : PS X st t) (h2 : PSs X rest u) : PSs X (st :: rest) (tSeq t u) := by
  intro pins s σ H D I h
  refine wpAny_execs_cons (thn (h1 pins s σ H { D with nx := u D } I h) fun f s1 q => ?_)
  cases f with
  | next =>
    obtain ⟨σ', H', I', q⟩ := q
    exact h2 pins s1 σ' H' D I' q
  | ret v => exact q
  | brk => exact q
  | cont => exact q
theorem pss_one (h1 : PS X st t) : PSs X [st] t := by
  intro pins s σ H D I h
  refine wpAny_execs_cons (thn (h1 pins s σ H D I h) fun f s1 q => ?_)
  cases f with
  | next => exact wpAny_execs_nil q
  | ret v => exact q
  | brk => exact q
  | cont => exact q
/-- in a def's body nothing is shown -/
theorem Inv.quiet {pins : List (Addr × Obj)} {σ : St} {H : Hp} {s : Shared} (I : Inv X pins σ H s) : interactive X.env = false := by simp [interactive, I.ok.kind]
/-- an expression whose value is dropped -/
def tDrop (te : TE) : TS := fun D σ H => te σ H fun _ H1 => D.nx σ H1
theorem ps_expr (he : PE X e te) (hs : swapsWith e none pos.line X.env = pure false := by rfl) : PS X (.Expr e pos) (tDrop te) := by
  intro pins s σ H D I h
  exact wpAny_Expr_any (thn (he pins s σ H _ I h) fun v s1 ⟨x, H1, I1, r1, q1⟩ => ⟨σ, H1, I1, q1⟩) I.quiet hs
def tRet (te : TE) : TS := fun D σ H => te σ H D.rt
theorem ps_ret (he : PE X e te) : PS X (.Return (some e) pos) (tRet te) := by
  intro pins s σ H D I h
  exact wpAny_Return_some (thn (he pins s σ H _ I h) fun v s1 ⟨x, H1, I1, r1, q1⟩ => ⟨x, σ, H1, I1, r1, q1⟩)
def tIfS (c : TT) (t u : TS) : TS := fun D σ H => c σ H fun b H1 => if b = true then t D σ H1 else u D σ H1
theorem ps_if {c : Expr} {a b : List Stmt} {tc : TT} (hc : PT X c tc) (ha : PSs X a t) (hb : PSs X b u) : PS X (.If c a b pos) (tIfS tc t u) := by
  intro pins s σ H D I h
  refine wpAny_If (thn (hc pins s σ H _ I h) fun d s1 ⟨H1, I1, q1⟩ => ?_)
  cases d with
  | true => exact ha pins s1 σ H1 D I1 q1
  | false => exact hb pins s1 σ H1 D I1 q1
/-- code that the proof never comes to -/
def tNever : TS := fun _ _ _ => False
theorem pss_never {sts : List Stmt} : PSs X sts tNever := fun _ _ _ _ _ _ h => h.elim
end

/-! ### targets -/
abbrev TG := V → St → Hp → (St → Hp → Prop) → Prop
abbrev TGs := List V → St → Hp → (St → Hp → Prop) → Prop
def PG (X : Cx) (target : Expr) (t : TG) : Prop :=
  ∀ (pins : List (Addr × Obj)) (s : Shared) (σ : St) (H : Hp) (v : V) (u : Value) (Q : St → Hp → Prop), Inv X pins σ H s → RelV v u → t v σ H Q →
    wpAny (model X.prog X.w) X.A (assign target X.env u) (fun _ s' => ∃ σ' H', Inv X pins σ' H' s' ∧ Q σ' H') X.xe s
/-- several targets, one after another -/
def PGs (X : Cx) (ts : List Expr) (t : TGs) : Prop :=
  ∀ (pins : List (Addr × Obj)) (s : Shared) (σ : St) (H : Hp) (vs : List V) (us : List Value) (Q : St → Hp → Prop), Inv X pins σ H s → Vals vs us → t vs σ H Q →
    wpAny (model X.prog X.w) X.A (assignInOrder ((assignEach ts X.env).map (·.2)) us) (fun _ s' => ∃ σ' H', Inv X pins σ' H' s' ∧ Q σ' H') X.xe s
/-- o[i] = v, by values -/
abbrev TSet := V → V → V → Hp → (Hp → Prop) → Prop
def PSet (X : Cx) (t : TSet) : Prop :=
  ∀ (pins : List (Addr × Obj)) (s : Shared) (σ : St) (H : Hp) (o i v : V) (ov iv u : Value) (Q : Hp → Prop), Inv X pins σ H s → RelV o ov → RelV i iv → RelV v u → t o i v H Q →
    wpAny (model X.prog X.w) X.A (setItem ov iv u) (fun _ s' => ∃ H', Inv X pins σ H' s' ∧ Q H') X.xe s
/-- a op= b, by values -/
abbrev TIp := V → V → Hp → VK → Prop
def PIp (X : Cx) (op : Operator) (t : TIp) : Prop :=
  ∀ (pins : List (Addr × Obj)) (s : Shared) (σ : St) (H : Hp) (x y : V) (v u : Value) (Q : VK), Inv X pins σ H s → RelV x v → RelV y u → t x y H Q →
    wpAny (model X.prog X.w) X.A (inplaceOp op v u) (EP X pins σ Q) X.xe s
section
variable {X : Cx} {pos : Pos}
def gName (i : Nat) : TG := fun v σ H Q => Q (σ.set i (some v)) H
theorem pg_name {i : Nat} {x : Str} (hN : X.N.Nodup) (hi : X.N[i]? = some x) (hx : Loc X.env.scope x) (hf : X.fn x = true ∨ X.env.scope.names.lookup x = some .local := by first | exact .inl rfl | exact .inr rfl | assumption) : PG X (.Name x pos) (gName i) := by
  intro pins s σ H v u Q I r h
  exact wpAny_assign_Name (store_ok I hN hi hx r (fun s' I' => ⟨_, H, I', h⟩) hf)
def gNil : TGs := fun vs σ H Q => vs = [] ∧ Q σ H
def gCons (t : TG) (u : TGs) : TGs := fun vs σ H Q => ∃ v r, vs = v :: r ∧ t v σ H fun σ' H' => u r σ' H' Q
theorem pgs_nil : PGs X [] gNil := by
  intro pins s σ H vs us Q I r h
  obtain ⟨e, h⟩ := h
  subst e
  cases r
  exact assignInOrder_nil ⟨σ, H, I, h⟩
theorem pgs_cons {e : Expr} {es : List Expr} {t : TG} {u : TGs} (h1 : PG X e t) (h2 : PGs X es u)
    (hs : (assignEach (e :: es) X.env).map (·.2) = assign e X.env :: (assignEach es X.env).map (·.2) := by rfl) : PGs X (e :: es) (gCons t u) := by
  intro pins s σ H vs us Q I r h
  obtain ⟨v, vr, e1, h⟩ := h
  subst e1
  cases r with
  | cons r rr =>
    rw [hs]
    refine assignInOrder_cons (thn (h1 pins s σ H _ _ _ I r h) fun _ s1 ⟨σ1, H1, I1, q1⟩ => ?_)
    exact h2 pins s1 σ1 H1 _ _ Q I1 rr q1
/-- (a, b, ..) = a tuple of that length -/
def gTup (K : PySem.W.Frag) (n : Nat) (t : TGs) : TG := fun v σ H Q => ∃ a xs, v = .ref a ∧ SqT K H a xs ∧ xs.length = n ∧ t xs σ H Q
theorem pg_tup {es : List Expr} {k : Nat} {t : TGs} {n : Nat} (hc : X.calm = true) (h : PGs X es t)
    (hn : (assignEach es X.env).length = n := by rfl) (hst : (assignEach es X.env).findIdx? (·.1) = none := by rfl) : PG X (.Tuple es k pos) (gTup X.K n t) := by
  intro pins s σ H v u Q I r hw
  obtain ⟨a, xs, e1, hq, hl, hw⟩ := hw
  subst e1
  cases r
  obtain ⟨its, rv, ht, hz⟩ := I.tuple hq
  refine assign_Tuple_tuple (I.ok.hd hc) ht (by simp [hn, ← hl, rv.length]) hst fun h' hx => ?_
  have I1 : Inv X pins σ H { s with heap := h' } := I.kept (t' := s.toks) fun b o e => hx b o (Nat.ne_of_lt (Heap.lt_size e)) e
  exact h pins _ σ H xs _ Q I1 (by simpa using rv) hw
/-- o[i] = .. -/
def gSub (to ti : TE) (t : TSet) : TG := fun v σ H Q => to σ H fun o H1 => ti σ H1 fun i H2 => t o i v H2 fun H3 => Q σ H3
theorem pg_sub {o i : Expr} {to ti : TE} {t : TSet} (ho : PE X o to) (hi : PE X i ti) (hs : PSet X t)
    (ha : ∀ v, assign (.Subscript o i pos) X.env v = (do
      let ov ← holding [v] (eval o X.env)
      let iv ← holding [v, ov] (eval i X.env)
      standAt pos
      holding [v, ov, iv] (setItem ov iv v)
      release [v, ov, iv] []) := by intro _; rfl) : PG X (.Subscript o i pos) (gSub to ti t) := by
  intro pins s σ H v u Q I r h
  rw [ha]
  refine wpAny_bind (wpAny_holding (thn (ho pins s σ H _ I h) fun ov s1 ⟨x, H1, I1, r1, q1⟩ => ?_))
  refine wpAny_bind (wpAny_holding (thn (hi pins s1 σ H1 _ I1 q1) fun iv s2 ⟨y, H2, I2, r2, q2⟩ => ?_))
  refine wpAny_bind (wpAny_standAt (wpAny_bind (wpAny_holding (thn (hs pins s2 σ H2 x y v ov iv u _ I2 r1 r2 r q2) fun _ s3 ⟨H3, I3, q3⟩ => ?_))))
  exact wpAny_release ⟨σ, H3, I3, q3⟩
/-- target = value -/
def tAsg (te : TE) (g : TG) : TS := fun D σ H => te σ H fun x H1 => g x σ H1 D.nx
theorem ps_asg {tg e : Expr} {te : TE} {g : TG} (he : PE X e te) (hg : PG X tg g) (hs : swapsWithSole [tg] e pos.line X.env = pure false := by rfl) (hw : swappedStores [tg] e X.env = pure none := by rfl)
    (h1 : (assignEach [tg] X.env).map (·.2) = [assign tg X.env] := by rfl) : PS X (.Assign [tg] e pos) (tAsg te g) := by
  intro pins s σ H D I h
  refine wpAny_Assign_stores (thn (he pins s σ H _ I h) fun v s1 ⟨x, H1, I1, r1, q1⟩ => ?_) hs hw
  rw [h1]
  exact thn (hg pins s1 σ H1 x v _ I1 r1 q1) fun _ s2 q => q
/-- name = value -/
theorem ps_set {i : Nat} {x : Str} {e : Expr} {te : TE} {pos' : Pos} (hN : X.N.Nodup) (hi : X.N[i]? = some x) (hx : Loc X.env.scope x) (he : PE X e te) (hs : swapsWith e (some (.Name x pos')) pos.line X.env = pure false := by rfl) (hf : X.fn x = true ∨ X.env.scope.names.lookup x = some .local := by first | exact .inl rfl | exact .inr rfl | assumption) :
    PS X (.Assign [.Name x pos'] e pos) (tAsg te (gName i)) := by
  intro pins s σ H D I h
  refine wpAny_Assign_Name (thn (he pins s σ H _ I h) fun v s1 ⟨y, H1, I1, r1, q1⟩ => ?_) hs
  exact store_ok I1 hN hi hx r1 (fun s2 I2 => ⟨_, H1, I2, q1⟩) hf
/-- name op= e -/
def tAug (i : Nat) (te : TE) (ti : TIp) : TS := fun D σ H => ∃ x, σ[i]? = some (some x) ∧ te σ H fun y H1 => ti x y H1 fun z H2 => D.nx (σ.set i (some z)) H2
theorem ps_aug {i : Nat} {x : Str} {e : Expr} {te : TE} {op : Operator} {ti : TIp} {pos' : Pos} (hN : X.N.Nodup) (hi : X.N[i]? = some x) (hx : Loc X.env.scope x) (he : PE X e te) (ho : PIp X op ti) (hf : X.fn x = true ∨ X.env.scope.names.lookup x = some .local := by first | exact .inl rfl | exact .inr rfl | assumption) :
    PS X (.AugAssign (.Name x pos') op e pos) (tAug i te ti) := by
  intro pins s σ H D I h
  obtain ⟨v, e1, h⟩ := h
  obtain ⟨m, hn, hl⟩ := I.loc
  have vis : Vis X.env.scope x := by rcases hx with k | k; exact .inl k; exact .inr (.inl k)
  obtain ⟨u, r, l⟩ := hl i x v hi e1 vis
  refine wpAny_AugAssign_Name ?_
  have go : wpAny (model X.prog X.w) X.A (eval e X.env) (fun w s₂ => wpAny (model X.prog X.w) X.A (inplaceOp op u w) (fun r s₃ => wpAny (model X.prog X.w) X.A (storeName X.env x r) (fun _ => SP X pins D .next) X.xe s₃) X.xe s₂) X.xe s := by
    refine thn (he pins s σ H _ I h) fun w s1 ⟨y, H1, I1, r1, q1⟩ => ?_
    refine thn (ho pins s1 σ H1 v y u w _ I1 r r1 q1) fun z s2 ⟨zv, H2, I2, r2, q2⟩ => ?_
    exact store_ok I2 hN hi hx r2 (fun s3 I3 => ⟨_, H2, I3, q2⟩) hf
  rcases l with ⟨hk, hm⟩ | ⟨hk, c, hc, hcell⟩
  · exact wpAny_loadName_local I.ok.kind hk hn hm go
  · rcases hk with hk | hk
    · exact wpAny_loadName_cell I.ok.kind hk hc hcell go
    · rcases hx with k | k
      · have : X.env.scope.names.lookup x = some .free := hk
        rw [k] at this; cases this
      · have : X.env.scope.names.lookup x = some .free := hk
        rw [k] at this; cases this
/-- ints -/
def ipI (f : Int → Int → Int) : TIp := fun x y H Q => ∃ i j, x = .int i ∧ y = .int j ∧ Q (.int (f i j)) H
theorem ip_add : PIp X .Add (ipI fun i j => i + j) := by
  intro pins s σ H x y v u Q I r1 r2 h
  obtain ⟨i, j, e1, e2, q⟩ := h
  subst e1; subst e2
  obtain ⟨t, rfl⟩ := r1
  obtain ⟨t', rfl⟩ := r2
  exact iadd_int ⟨.int _, H, I.tok _, ⟨_, rfl⟩, q⟩
end

/-! ### while -/
section
variable {X : Cx} {pos : Pos}
/-- the invariant W with its measure -/
def tWhile (c : TT) (tb : TS) : TS := fun D σ H => ∃ W : Nat → St → Hp → Prop, (∃ m, W m σ H) ∧ ∀ m σ H, W m σ H →
  c σ H fun b H1 => if b = true then ∃ N : St → Hp → Prop, (∀ σ' H', N σ' H' → ∃ m', m' < m ∧ W m' σ' H') ∧ tb { D with nx := N, ct := N, bk := D.nx } σ H1 else D.nx σ H1
theorem ps_while {c : Expr} {body : List Stmt} {tc : TT} {tb : TS} (hp : PassesOwn (model X.prog X.w) X.A X.env X.xe) (hc : PT X c tc) (hb : PSs X body tb) : PS X (.While c body [] pos) (tWhile tc tb) := by
  intro pins s σ H D I h
  obtain ⟨W, ⟨m0, w0⟩, turn⟩ := h
  refine wpAny_While (codeAny_whileLoop (fun n s' => ∃ σ' H', Inv X pins σ' H' s' ∧ W n σ' H') ?_ m0 ⟨σ, H, I, w0⟩)
  rintro n s1 ⟨σ1, H1, I1, w1⟩
  refine wpAny_passesOwn hp (thn (hc pins s1 σ1 H1 _ I1 (turn n σ1 H1 w1)) fun b s2 ⟨H2, I2, q2⟩ => ?_)
  cases b with
  | true =>
    obtain ⟨N, hN, q2⟩ := q2
    rw [if_pos rfl]
    refine wpAny_passesOwn hp (thn (hb pins s2 σ1 H2 _ I2 q2) fun f s3 q3 => ?_)
    cases f with
    | next =>
      obtain ⟨σ3, H3, I3, n3⟩ := q3
      obtain ⟨m', hm, w3⟩ := hN σ3 H3 n3
      exact ⟨m', hm, σ3, H3, I3, w3⟩
    | cont =>
      obtain ⟨σ3, H3, I3, n3⟩ := q3
      obtain ⟨m', hm, w3⟩ := hN σ3 H3 n3
      exact ⟨m', hm, σ3, H3, I3, w3⟩
    | brk => exact q3
    | ret v => exact q3
  | false =>
    rw [if_neg Bool.false_ne_true]
    exact wpAny_execs_nil ⟨σ1, H2, I2, q2⟩
end

/-! ### what a loop or a comprehension walks -/
/-- at turn i: it yields x (the heap may grow), or it stops -/
structure It where
  go : Nat → Hp → Prop
  yld : Nat → Hp → V → Hp → Prop
  stop : Nat → Hp → Prop
/-- the iterator's own objects may turn: they are not the frame's, not pinned, younger than the entry (or a comprehension's own) -/
def FpOk (X : Cx) (pins : List (Addr × Obj)) (H : Hp) (b : Addr) : Prop :=
  H b = none ∧ b ≠ X.env.locals ∧ b ∉ X.fs ∧ (b ∈ X.ex ∨ X.s₀.heap.objs.size ≤ b) ∧ (∀ x c, X.env.cells.lookup x = some c → c ≠ b) ∧ ∀ p ∈ X.pn ++ pins, p.1 ≠ b
theorem Inv.fpOk {X : Cx} {pins : List (Addr × Obj)} {σ : St} {H H' : Hp} {s : Shared} {b : Addr} (I : Inv X pins σ H s) (hb : s.heap.objs.size ≤ b) (hn : H' b = none) : FpOk X pins H' b := by
  refine ⟨hn, Nat.ne_of_gt (Nat.lt_of_lt_of_le I.lt hb), I.nofs hb, .inr (Nat.le_trans I.sz hb), fun x c e z => ?_, fun p hp z => ?_⟩
  · obtain ⟨v, q⟩ := I.cell x c e
    exact absurd (Nat.lt_of_lt_of_le q.lt (by rw [z]; exact hb)) (Nat.lt_irrefl _)
  · exact absurd (Nat.lt_of_lt_of_le (Heap.lt_size (I.pin p hp).1) (by rw [z]; exact hb)) (Nat.lt_irrefl _)
structure Turn (P : Program) (w : World) (K : PySem.W.Frag) (tg : Expr) (J : It) (fp : List Addr) (it : Addr) (tn : Nat → Heap → Prop) : Prop where
  mem : it ∈ fp
  obj : ∀ i h, tn i h → ∀ b ∈ fp, ∃ o, h.get? b = some o ∧ ∀ v, o.data ≠ .cell v
  keep : ∀ i h h', tn i h → (∀ b ∈ fp, ∀ o, h.get? b = some o → h'.get? b = some o) → tn i h'
  item : ∀ (X : Cx), X.prog = P → X.w = w → X.K = K → X.calm = true → ∀ (i : Nat) (pins : List (Addr × Obj)) (s : Shared) (σ : St) (H : Hp) (E : Value → Shared → Prop), Inv X pins σ H s → (∀ b ∈ fp, FpOk X pins H b) → tn i s.heap → J.go i H →
    wpAny (model P w) X.A (pyNext (.ref it)) (fun r s1 => ∃ u, r = some u ∧
      wpAny (model P w) X.A (letOwnedTupleGo tg (.ref it) u) (fun _ s2 => ∃ x H', Inv X pins σ H' s2 ∧ RelV x u ∧ J.yld i H x H' ∧ tn (i + 1) s2.heap ∧ ∀ b ∈ fp, H' b = none) E s1) E s
  done : ∀ (X : Cx), X.prog = P → X.w = w → X.K = K → X.calm = true → ∀ (i : Nat) (pins : List (Addr × Obj)) (s : Shared) (σ : St) (H : Hp) (E : Value → Shared → Prop), Inv X pins σ H s → (∀ b ∈ fp, FpOk X pins H b) → tn i s.heap → J.stop i H →
    wpAny (model P w) X.A (pyNext (.ref it)) (fun r s1 => r = none ∧ Inv X pins σ H s1) E s
  self : ∀ (A : Around) (i : Nat) (s : Shared) (Q : Value → Shared → Prop) (E : Value → Shared → Prop), tn i s.heap → Q (.ref it) s → wpAny (model P w) A (pyIter (.ref it)) Q E s
abbrev TI := St → Hp → (It → Hp → Prop) → Prop
/-- an iterator has come -/
def PIE (X : Cx) (pins : List (Addr × Obj)) (σ : St) (tg : Expr) (R : It → Hp → Prop) (itv : Value) (s2 : Shared) : Prop :=
  ∃ (it : Addr) (fp : List Addr) (tn : Nat → Heap → Prop) (J : It) (H' : Hp), itv = .ref it ∧ Inv X pins σ H' s2 ∧ Turn X.prog X.w X.K tg J fp it tn ∧ tn 0 s2.heap ∧ (∀ b ∈ fp, FpOk X pins H' b) ∧ R J H'
def PI (X : Cx) (tg iter : Expr) (wi : TI) : Prop :=
  ∀ (pins : List (Addr × Obj)) (s : Shared) (σ : St) (H : Hp) (R : It → Hp → Prop), Inv X pins σ H s → wi σ H R →
    wpAny (model X.prog X.w) X.A (eval iter X.env) (fun v s1 => wpAny (model X.prog X.w) X.A (pyIter v) (PIE X pins σ tg R) X.xe s1) X.xe s

/-- the step ahead of the store is nothing for an iterator that keeps no tuple -/
theorem go_of {M : Model} {A : Around} {E : Value → Shared → Prop} {s : Shared} {tg : Expr} {it : Addr} {u : Value} {o : Obj} {n : String} {vs : Array Value} {Q : Unit → Shared → Prop} (ho : s.heap.get? it = some o) (hc : o.cls = .type n) (hd : o.data = .fields vs)
    (hn : ["enumerate", "zip", "dict_itemiterator", "dict_reverseitemiterator", "odict_iterator", "itertools.zip_longest", "itertools.pairwise"].contains n = false) (hQ : Q () s) : wpAny M A (letOwnedTupleGo tg (.ref it) u) Q E s := by
  unfold letOwnedTupleGo
  cases tg <;> first
    | exact wpAny_pure hQ
    | (cases u <;> first
        | exact wpAny_pure hQ
        | (refine wpAny_bind (wpAny_load ho ?_)
           rw [hc, hd]
           show wpAny M A (if (["enumerate", "zip", "dict_itemiterator", "dict_reverseitemiterator", "odict_iterator", "itertools.zip_longest", "itertools.pairwise"].contains n && vs[0]? == some (rawInt _)) = true then _ else _) Q E s
           rw [if_neg (by intro h; rw [hn, Bool.false_and] at h; cases h)]
           exact wpAny_pure hQ))

/-- the list at a, as it stands at each turn (a loop may append to it) -/
def Itl (K : PySem.W.Frag) (a : Addr) : It :=
  ⟨fun i H => ∃ xs x, SqL K H a xs ∧ xs[i]? = some x, fun i H x H' => H' = H ∧ ∀ xs, SqL K H a xs → xs[i]? = some x, fun i H => ∃ xs, SqL K H a xs ∧ xs.length ≤ i⟩
def Itt (K : PySem.W.Frag) (a : Addr) : It :=
  ⟨fun i H => ∃ xs x, SqT K H a xs ∧ xs[i]? = some x, fun i H x H' => H' = H ∧ ∀ xs, SqT K H a xs → xs[i]? = some x, fun i H => ∃ xs, SqT K H a xs ∧ xs.length ≤ i⟩
/-- lo, lo + 1, .. (n of them) -/
def Itr (lo : Int) (n : Nat) : It := ⟨fun i _ => i < n, fun i H x H' => H' = H ∧ x = .int (lo + i), fun i _ => n ≤ i⟩
theorem turn_list {P : Program} {w : World} {K : PySem.W.Frag} {tg : Expr} (a it : Addr) : Turn P w K tg (Itl K a) [it] it (fun i h => h.IsListIter it a i) where
  mem := by simp
  obj := fun i h st b hb => by
    have e : b = it := by simpa using hb
    subst e
    obtain ⟨o, e, c, d⟩ := st
    exact ⟨o, e, fun v z => by rw [d] at z; cases z⟩
  keep := fun i h h' st k => st.at fun o e => k it (by simp) o e
  item := by
    intro X hP hw hK hc i pins s σ H E I hf st hg
    subst hP hw hK
    obtain ⟨xs, x, hq, hx⟩ := hg
    obtain ⟨its, rv, p, hz⟩ := I.list hq
    obtain ⟨u, hu, ru⟩ := rv.get hx
    obtain ⟨f0, f1, f2, f3, f4, f5⟩ := hf it (by simp)
    refine wpAny_pyNext_list_item st p.isList (x := u) (by simpa using hu) fun h' st' sb => ?_
    have I1 : Inv X pins σ H { s with heap := h' } := I.turned (t' := s.toks) (fun b o hb e => (sb.2 b hb).trans e) f0 f1 f3 f4 f5
    obtain ⟨o, e, c, d⟩ := id st'
    exact ⟨u, rfl, go_of (s := { s with heap := h' }) e c d (by decide) ⟨x, H, I1, ru, ⟨rfl, fun ys hy => by rw [I.list_inj hy hq]; exact hx⟩, st', fun b hb => (hf b hb).1⟩⟩
  done := by
    intro X hP hw hK hc i pins s σ H E I hf st hg
    subst hP hw hK
    obtain ⟨xs, hq, hx⟩ := hg
    obtain ⟨its, rv, p, hz⟩ := I.list hq
    obtain ⟨f0, f1, f2, f3, f4, f5⟩ := hf it (by simp)
    have hl := rv.length
    exact wpAny_pyNext_list_end (I.ok.hd hc) st p.isList (by simp; omega) fun h' eb => ⟨rfl, I.turned (t' := s.toks) (fun b o hb e => eb b o hb e) f0 f1 f3 f4 f5⟩
  self := fun _ _ _ _ _ st h => wpAny_pyIter_listiter st h
theorem turn_tuple {P : Program} {w : World} {K : PySem.W.Frag} {tg : Expr} (a it : Addr) : Turn P w K tg (Itt K a) [it] it (fun i h => h.IsTupleIter it a i) where
  mem := by simp
  obj := fun i h st b hb => by
    have e : b = it := by simpa using hb
    subst e
    obtain ⟨o, e, c, d⟩ := st
    exact ⟨o, e, fun v z => by rw [d] at z; cases z⟩
  keep := fun i h h' st k => st.at fun o e => k it (by simp) o e
  item := by
    intro X hP hw hK hc i pins s σ H E I hf st hg
    subst hP hw hK
    obtain ⟨xs, x, hq, hx⟩ := hg
    obtain ⟨its, rv, p, hz⟩ := I.tuple hq
    obtain ⟨u, hu, ru⟩ := rv.get hx
    obtain ⟨f0, f1, f2, f3, f4, f5⟩ := hf it (by simp)
    refine wpAny_pyNext_tuple_item st (show s.heap.IsTuple a its.toArray from p) (x := u) (by simpa using hu) fun h' st' sb => ?_
    have I1 : Inv X pins σ H { s with heap := h' } := I.turned (t' := s.toks) (fun b o hb e => (sb.2 b hb).trans e) f0 f1 f3 f4 f5
    obtain ⟨o, e, c, d⟩ := id st'
    exact ⟨u, rfl, go_of (s := { s with heap := h' }) e c d (by decide) ⟨x, H, I1, ru, ⟨rfl, fun ys hy => by rw [I.tuple_inj hy hq]; exact hx⟩, st', fun b hb => (hf b hb).1⟩⟩
  done := by
    intro X hP hw hK hc i pins s σ H E I hf st hg
    subst hP hw hK
    obtain ⟨xs, hq, hx⟩ := hg
    obtain ⟨its, rv, p, hz⟩ := I.tuple hq
    obtain ⟨f0, f1, f2, f3, f4, f5⟩ := hf it (by simp)
    have hl := rv.length
    exact wpAny_pyNext_tuple_end (I.ok.hd hc) st (show s.heap.IsTuple a its.toArray from p) (by simp; omega) fun h' eb => ⟨rfl, I.turned (t' := s.toks) (fun b o hb e => eb b o hb e) f0 f1 f3 f4 f5⟩
  self := fun _ _ _ _ _ st h => wpAny_pyIter_tupleiter st h
theorem turn_range {P : Program} {w : World} {K : PySem.W.Frag} {tg : Expr} (it : Addr) (lo : Int) (n : Nat) : Turn P w K tg (Itr lo n) [it] it (fun i h => IsRangeIter h it (lo + (i : Nat) * 1) ((n : Int) - (i : Nat)) 1) where
  mem := by simp
  obj := fun i h st b hb => by
    have e : b = it := by simpa using hb
    subst e
    exact ⟨_, st, fun v z => by
      have z' : Data.fields _ = Data.cell v := z
      cases z'⟩
  keep := fun i h h' st k => k it (by simp) _ st
  item := by
    intro X hP hw hK hc i pins s σ H E I hf st hg
    subst hP hw hK
    obtain ⟨f0, f1, f2, f3, f4, f5⟩ := hf it (by simp)
    have W := Walks.range (prog := X.prog) (w := X.w) (I.ok.hd hc) it lo 1 n
    refine W.item i s _ _ hg st fun v h' tk hv st' kk => ?_
    obtain ⟨t, rfl⟩ := hv
    have I1 : Inv X pins σ H { s with heap := h', toks := tk } := I.turned (fun b o hb e => kk b o (by simpa using hb) e) f0 f1 f3 f4 f5
    refine ⟨_, rfl, go_of (s := { s with heap := h', toks := tk }) (n := "range_iterator") st' rfl rfl (by decide) ⟨.int (lo + i), H, I1, ⟨t, ?_⟩, ⟨rfl, rfl⟩, st', fun b hb => (hf b hb).1⟩⟩
    rw [Int.mul_one]
  done := by
    intro X hP hw hK hc i pins s σ H E I hf st hg
    subst hP hw hK
    obtain ⟨f0, f1, f2, f3, f4, f5⟩ := hf it (by simp)
    exact wpAny_pyNext_range_end (I.ok.hd hc) st (by have : n ≤ i := hg; omega) fun h' eb => ⟨rfl, I.turned (t' := s.toks) (fun b o hb e => eb b o hb e) f0 f1 f3 f4 f5⟩
  self := fun _ _ _ _ _ st h => wpAny_pyIter_rangeiter st h
end L2

namespace L2
open PySem PySem.Spec PyProof.Rows
section
variable {X : Cx} {tg : Expr}
def iList (K : PySem.W.Frag) (tl : TE) : TI := fun σ H R => tl σ H fun x H1 => ∃ a, x = .ref a ∧ (∃ xs, SqL K H1 a xs) ∧ R (Itl K a) H1
def iTup (K : PySem.W.Frag) (tl : TE) : TI := fun σ H R => tl σ H fun x H1 => ∃ a, x = .ref a ∧ (∃ xs, SqT K H1 a xs) ∧ R (Itt K a) H1
theorem pi_list {l : Expr} {tl : TE} (hl : PE X l tl) : PI X tg l (iList X.K tl) := by
  intro pins s σ H R I h
  refine thn (hl pins s σ H _ I h) fun v s1 ⟨x, H1, I1, r1, q1⟩ => ?_
  obtain ⟨a, e, ⟨xs, hq⟩, q⟩ := q1
  subst e
  cases r1
  obtain ⟨its, rv, p, hz⟩ := I1.list hq
  refine wpAny_pyIter_list p.isList ?_
  refine ⟨s1.heap.objs.size, [s1.heap.objs.size], _, _, H1, rfl, I1.kept (t' := s1.toks) fun b o e => Heap.get?_push_of_some _ e, turn_list a _, ⟨_, Heap.get?_push_size _ rfl, rfl, rfl⟩, fun b hb => ?_, q⟩
  have e : b = s1.heap.objs.size := by simpa using hb
  subst e
  exact I1.fpOk (Nat.le_refl _) (I1.hok.fresh (Nat.le_refl _))
theorem pi_tup {l : Expr} {tl : TE} (hl : PE X l tl) : PI X tg l (iTup X.K tl) := by
  intro pins s σ H R I h
  refine thn (hl pins s σ H _ I h) fun v s1 ⟨x, H1, I1, r1, q1⟩ => ?_
  obtain ⟨a, e, ⟨xs, hq⟩, q⟩ := q1
  subst e
  cases r1
  obtain ⟨its, rv, p, hz⟩ := I1.tuple hq
  refine wpAny_pyIter_tuple (show s1.heap.IsTuple a its.toArray from p) ?_
  refine ⟨s1.heap.objs.size, [s1.heap.objs.size], _, _, H1, rfl, I1.kept (t' := s1.toks) fun b o e => Heap.get?_push_of_some _ e, turn_tuple a _, ⟨_, Heap.get?_push_size _ rfl, rfl, rfl⟩, fun b hb => ?_, q⟩
  have e : b = s1.heap.objs.size := by simpa using hb
  subst e
  exact I1.fpOk (Nat.le_refl _) (I1.hok.fresh (Nat.le_refl _))
/-- a range object just made, walked -/
theorem range_it {pins : List (Addr × Obj)} {σ : St} {H : Hp} {s : Shared} {R : It → Hp → Prop} {E : Value → Shared → Prop} {lo hi : Int} {t u v : Tok} {tk : Nat} (I : Inv X pins σ H s) (h1 : -(2 ^ 62) ≤ lo) (h2 : lo < 2 ^ 62) (h3 : -(2 ^ 62) ≤ hi) (h4 : hi < 2 ^ 62)
    (q : R (Itr lo (hi - lo).toNat) H) : wpAny (model X.prog X.w) X.A (pyIter (.ref s.heap.objs.size)) (PIE X pins σ tg R) E { s with heap := s.heap.push { cls := .type "range", data := .fields #[.int lo t, .int hi u, .int 1 v] }, toks := tk } := by
  refine wpAny_pyIter_range (IsRange.new ..) (small_one h1 h2 h3 h4) ?_
  have I1 : Inv X pins σ H { s with heap := s.heap.push { cls := .type "range", data := .fields #[.int lo t, .int hi u, .int 1 v] }, toks := tk } := I.kept fun b o e => Heap.get?_push_of_some _ e
  refine ⟨(s.heap.push { cls := .type "range", data := .fields #[.int lo t, .int hi u, .int 1 v] }).objs.size, [(s.heap.push { cls := .type "range", data := .fields #[.int lo t, .int hi u, .int 1 v] }).objs.size], _, _, H, rfl,
    I1.kept (t' := tk) fun b o e => Heap.get?_push_of_some _ e, turn_range _ lo (hi - lo).toNat, ?_, fun b hb => ?_, q⟩
  · have e1 : lo + ((0 : Nat) : Int) * 1 = lo := by simp
    have e2 : (((hi - lo).toNat : Nat) : Int) - ((0 : Nat) : Int) = Builtin.Range.rangeSize lo hi 1 := by rw [rangeSize_one]; split <;> omega
    show IsRangeIter _ _ (lo + ((0 : Nat) : Int) * 1) ((((hi - lo).toNat : Nat) : Int) - ((0 : Nat) : Int)) 1
    rw [e1, e2]
    exact Heap.get?_push_size _ rfl
  · have e : b = (s.heap.push { cls := .type "range", data := .fields #[.int lo t, .int hi u, .int 1 v] }).objs.size := by simpa using hb
    subst e
    exact I1.fpOk (Nat.le_refl _) (I1.hok.fresh (Nat.le_refl _))
def iRng1 (ta : TA) : TI := fun σ H R => ta σ H fun vs H1 => ∃ j : Int, vs = [.int j] ∧ -(2 ^ 62) ≤ j ∧ j < 2 ^ 62 ∧ R (Itr 0 j.toNat) H1
theorem pi_range1 {a : Expr} {ta : TA} {p pos : Pos} (hg : Gl X "range") (hm : X.mg "range" = none) (ha : PA X [a] ta) (hs : starEach [a] X.env = [(false, eval a X.env)] := by rfl) : PI X tg (.Call (.Name "range" p) [a] [] pos) (iRng1 ta) := by
  intro pins s σ H R I h
  refine Call_ (ld_blt I hg hm boot_range (PyProof.Rows.callWith_type1 (thn (ha pos pins s σ H _ I h) fun us s1 ⟨vs, H1, I1, r1, q1⟩ => ?_) hs rfl))
  obtain ⟨j, e, q1, q2, q⟩ := q1
  subst e
  cases r1 with
  | cons r rr =>
    cases rr
    obtain ⟨t, rfl⟩ := r
    exact call_range_1 (range_it I1 (by omega) (by omega) q1 q2 (by simpa using q))

/-! ### for -/
/-- W: the invariant by the turn and a measure; N: what the body is to reach -/
def tFor (wi : TI) (g : TG) (tb : TS) : TS := fun D σ H => wi σ H fun J H1 => ∃ W : Nat → Nat → St → Hp → Prop, (∃ m, W 0 m σ H1) ∧ ∀ i m σ H, W i m σ H →
  (J.stop i H ∧ D.nx σ H) ∨ (J.go i H ∧ ∃ N : St → Hp → Prop, (∀ σ' H', N σ' H' → ∃ m', m' < m ∧ W (i + 1) m' σ' H') ∧ ∀ x H', J.yld i H x H' → g x σ H' fun σ2 H2 => tb { D with nx := N, ct := N, bk := D.nx } σ2 H2)
/-- the records at fp as they stand -/
def pinsAt (fp : List Addr) (h : Heap) : List (Addr × Obj) := fp.filterMap fun b => (h.get? b).map fun o => (b, o)
theorem mem_pinsAt {fp : List Addr} {h : Heap} {b : Addr} {o : Obj} (hb : b ∈ fp) (e : h.get? b = some o) : (b, o) ∈ pinsAt fp h := List.mem_filterMap.mpr ⟨b, hb, by rw [e]; rfl⟩
theorem of_pinsAt {fp : List Addr} {h : Heap} {p : Addr × Obj} (hp : p ∈ pinsAt fp h) : p.1 ∈ fp ∧ h.get? p.1 = some p.2 := by
  obtain ⟨b, hb, e⟩ := List.mem_filterMap.mp hp
  cases q : h.get? b with
  | none => rw [q] at e; cases e
  | some o =>
    rw [q] at e
    have e' : (b, o) = p := Option.some.inj e
    subst e'
    exact ⟨hb, q⟩
theorem Inv.pinned {pins : List (Addr × Obj)} {σ : St} {H : Hp} {s : Shared} {fp : List Addr} (I : Inv X pins σ H s) (hf : ∀ b ∈ fp, FpOk X pins H b) (ho : ∀ b ∈ fp, ∃ o, s.heap.get? b = some o ∧ ∀ v, o.data ≠ .cell v) : Inv X (pins ++ pinsAt fp s.heap) σ H s :=
  I.pins_of fun p hp => (List.mem_append.mp hp).elim (fun z => I.pin p (List.mem_append_right _ z)) fun z => by
    obtain ⟨hb, e⟩ := of_pinsAt z
    obtain ⟨f0, f1, f2, _⟩ := hf p.1 hb
    obtain ⟨o, e', d⟩ := ho p.1 hb
    rw [e] at e'; cases e'
    exact ⟨e, f0, f1, f2, d⟩
theorem Inv.unpinned {pins pl : List (Addr × Obj)} {σ : St} {H : Hp} {s : Shared} (I : Inv X (pins ++ pl) σ H s) : Inv X pins σ H s := I.pins_of fun p hp => I.pin p (List.mem_append_right _ (List.mem_append_left _ hp))
theorem ps_for {iter : Expr} {body : List Stmt} {wi : TI} {g : TG} {tb : TS} {pos : Pos} (hp : PassesOwn (model X.prog X.w) X.A X.env X.xe) (hc : X.calm = true) (hi : PI X tg iter wi) (hg : PG X tg g) (hb : PSs X body tb)
    (hs : ∀ x, foldedSetIterable iter X.env x = pure x := by intro _; rfl) : PS X (.For tg iter body [] pos) (tFor wi g tb) := by
  intro pins s σ H D I h
  refine wpAny_For (thn (hi pins s σ H _ I h) fun v s1 h1 => thn h1 fun itv s2 h2 => ?_) hs
  obtain ⟨it, fp, tn, J, H2, e, I2, T, st2, f2, W, ⟨m0, w0⟩, turn⟩ := h2
  subst e
  -- what stays true of the iterator's objects through the loop
  have stat : ∀ {H' : Hp}, (∀ b ∈ fp, H' b = none) → ∀ b ∈ fp, FpOk X pins H' b := fun hn b hb => ⟨hn b hb, (f2 b hb).2⟩
  refine codeAny_forLoop_any (fun n s' => ∃ i σ' H', Inv X pins σ' H' s' ∧ tn i s'.heap ∧ (∀ b ∈ fp, H' b = none) ∧ W i n σ' H') ?_ m0 ⟨0, σ, H2, I2, st2, fun b hb => (f2 b hb).1, w0⟩
  rintro n s3 ⟨i, σ3, H3, I3, st3, fr3, w3⟩
  rcases turn i n σ3 H3 w3 with ⟨stop, qn⟩ | ⟨go, N, hN, step⟩
  · refine wpAny_passesOwn hp (thn (T.done X rfl rfl rfl hc i pins s3 σ3 H3 X.xe I3 (stat fr3) st3 stop) fun r s4 ⟨hr, I4⟩ => ?_)
    subst hr
    exact wpAny_execs_nil ⟨σ3, H3, I4, qn⟩
  · refine wpAny_passesOwn hp (thn (T.item X rfl rfl rfl hc i pins s3 σ3 H3 X.xe I3 (stat fr3) st3 go) fun r s4 ⟨u, hr, h4⟩ => ?_)
    subst hr
    refine wpAny_passesOwn hp (thn h4 fun _ s5 ⟨x, H5, I5, r5, y5, st5, fr5⟩ => ?_)
    have I5' := I5.pinned (stat fr5) (T.obj _ _ st5)
    refine wpAny_passesOwn hp (thn (hg _ s5 σ3 H5 x u _ I5' r5 (step x H5 y5)) fun _ s6 ⟨σ6, H6, I6, q6⟩ => ?_)
    refine wpAny_passesOwn hp (thn (hb _ s6 σ6 H6 _ I6 q6) fun f s7 q7 => ?_)
    have again : ∀ {σ7 : St} {H7 : Hp}, Inv X (pins ++ pinsAt fp s5.heap) σ7 H7 s7 → N σ7 H7 → ∃ m, m < n ∧ ∃ i σ' H', Inv X pins σ' H' s7 ∧ tn i s7.heap ∧ (∀ b ∈ fp, H' b = none) ∧ W i m σ' H' := fun {σ7 H7} I7 n7 => by
      obtain ⟨m', hm, w7⟩ := hN σ7 H7 n7
      refine ⟨m', hm, i + 1, σ7, H7, I7.unpinned, T.keep _ _ _ st5 fun b hb o e => (I7.pin (b, o) (List.mem_append_right _ (List.mem_append_right _ (mem_pinsAt hb e)))).1, fun b hb => ?_, w7⟩
      obtain ⟨o, e, d⟩ := T.obj _ _ st5 b hb
      exact (I7.pin (b, o) (List.mem_append_right _ (List.mem_append_right _ (mem_pinsAt hb e)))).2.1
    cases f with
    | next => obtain ⟨σ7, H7, I7, n7⟩ := q7; exact again I7 n7
    | cont => obtain ⟨σ7, H7, I7, n7⟩ := q7; exact again I7 n7
    | brk => obtain ⟨σ7, H7, I7, q7⟩ := q7; exact ⟨σ7, H7, I7.unpinned, q7⟩
    | ret v => obtain ⟨x7, σ7, H7, I7, r7, q7⟩ := q7; exact ⟨x7, σ7, H7, I7.unpinned, r7, q7⟩
end

/-! ### the forms one uses -/
/-- over a list that the body leaves as it is -/
theorem for_list {K : PySem.W.Frag} {a : Addr} {xs : List V} {g : TG} {tb : TS} {D : Ends} {σ : St} {H : Hp} (Pv : Nat → St → Hp → Prop) (h0 : Pv 0 σ H) (hl : ∀ i σ H, i ≤ xs.length → Pv i σ H → SqL K H a xs)
    (hs : ∀ i x σ H, xs[i]? = some x → Pv i σ H → g x σ H fun σ2 H2 => tb { D with nx := Pv (i + 1), ct := Pv (i + 1), bk := D.nx } σ2 H2) (hd : ∀ σ H, Pv xs.length σ H → D.nx σ H) :
    ∃ W : Nat → Nat → St → Hp → Prop, (∃ m, W 0 m σ H) ∧ ∀ i m σ H, W i m σ H →
      ((Itl K a).stop i H ∧ D.nx σ H) ∨ ((Itl K a).go i H ∧ ∃ N : St → Hp → Prop, (∀ σ' H', N σ' H' → ∃ m', m' < m ∧ W (i + 1) m' σ' H') ∧ ∀ x H', (Itl K a).yld i H x H' → g x σ H' fun σ2 H2 => tb { D with nx := N, ct := N, bk := D.nx } σ2 H2) := by
  refine ⟨fun i m σ H => m = xs.length - i ∧ i ≤ xs.length ∧ Pv i σ H, ⟨xs.length, by simp, Nat.zero_le _, h0⟩, ?_⟩
  rintro i m σ H ⟨rfl, hi, p⟩
  have q := hl i σ H hi p
  by_cases hlt : i < xs.length
  · refine .inr ⟨⟨xs, xs[i], q, by simp [hlt]⟩, Pv (i + 1), fun σ' H' p' => ⟨xs.length - (i + 1), by omega, rfl, hlt, p'⟩, fun x H' y => ?_⟩
    obtain ⟨e, y⟩ := y
    subst e
    exact hs i x σ _ (y xs q) p
  · have e : i = xs.length := by omega
    subst e
    exact .inl ⟨⟨xs, q, Nat.le_refl _⟩, hd σ H p⟩
theorem for_tup {K : PySem.W.Frag} {a : Addr} {xs : List V} {g : TG} {tb : TS} {D : Ends} {σ : St} {H : Hp} (Pv : Nat → St → Hp → Prop) (h0 : Pv 0 σ H) (hl : ∀ i σ H, i ≤ xs.length → Pv i σ H → SqT K H a xs)
    (hs : ∀ i x σ H, xs[i]? = some x → Pv i σ H → g x σ H fun σ2 H2 => tb { D with nx := Pv (i + 1), ct := Pv (i + 1), bk := D.nx } σ2 H2) (hd : ∀ σ H, Pv xs.length σ H → D.nx σ H) :
    ∃ W : Nat → Nat → St → Hp → Prop, (∃ m, W 0 m σ H) ∧ ∀ i m σ H, W i m σ H →
      ((Itt K a).stop i H ∧ D.nx σ H) ∨ ((Itt K a).go i H ∧ ∃ N : St → Hp → Prop, (∀ σ' H', N σ' H' → ∃ m', m' < m ∧ W (i + 1) m' σ' H') ∧ ∀ x H', (Itt K a).yld i H x H' → g x σ H' fun σ2 H2 => tb { D with nx := N, ct := N, bk := D.nx } σ2 H2) := by
  refine ⟨fun i m σ H => m = xs.length - i ∧ i ≤ xs.length ∧ Pv i σ H, ⟨xs.length, by simp, Nat.zero_le _, h0⟩, ?_⟩
  rintro i m σ H ⟨rfl, hi, p⟩
  have q := hl i σ H hi p
  by_cases hlt : i < xs.length
  · refine .inr ⟨⟨xs, xs[i], q, by simp [hlt]⟩, Pv (i + 1), fun σ' H' p' => ⟨xs.length - (i + 1), by omega, rfl, hlt, p'⟩, fun x H' y => ?_⟩
    obtain ⟨e, y⟩ := y
    subst e
    exact hs i x σ _ (y xs q) p
  · have e : i = xs.length := by omega
    subst e
    exact .inl ⟨⟨xs, q, Nat.le_refl _⟩, hd σ H p⟩
theorem for_range {lo : Int} {n : Nat} {g : TG} {tb : TS} {D : Ends} {σ : St} {H : Hp} (Pv : Nat → St → Hp → Prop) (h0 : Pv 0 σ H)
    (hs : ∀ i σ H, i < n → Pv i σ H → g (.int (lo + i)) σ H fun σ2 H2 => tb { D with nx := Pv (i + 1), ct := Pv (i + 1), bk := D.nx } σ2 H2) (hd : ∀ σ H, Pv n σ H → D.nx σ H) :
    ∃ W : Nat → Nat → St → Hp → Prop, (∃ m, W 0 m σ H) ∧ ∀ i m σ H, W i m σ H →
      ((Itr lo n).stop i H ∧ D.nx σ H) ∨ ((Itr lo n).go i H ∧ ∃ N : St → Hp → Prop, (∀ σ' H', N σ' H' → ∃ m', m' < m ∧ W (i + 1) m' σ' H') ∧ ∀ x H', (Itr lo n).yld i H x H' → g x σ H' fun σ2 H2 => tb { D with nx := N, ct := N, bk := D.nx } σ2 H2) := by
  refine ⟨fun i m σ H => m = n - i ∧ i ≤ n ∧ Pv i σ H, ⟨n, by simp, Nat.zero_le _, h0⟩, ?_⟩
  rintro i m σ H ⟨rfl, hi, p⟩
  by_cases hlt : i < n
  · refine .inr ⟨hlt, Pv (i + 1), fun σ' H' p' => ⟨n - (i + 1), by omega, rfl, hlt, p'⟩, fun x H' y => ?_⟩
    obtain ⟨e, y⟩ := y
    subst e y
    exact hs i σ _ hlt p
  · have e : i = n := by omega
    subst e
    exact .inl ⟨Nat.le_refl _, hd σ H p⟩
end L2

namespace L2
open PySem PySem.Spec PyProof.Rows

abbrev R2 := V → V → Hp → VK → Prop
/-- a two-place operation on values: f is binaryOp op, inplaceOp op or compareOp op -/
def OpR (X : Cx) (f : Value → Value → Sem Value) (r : R2) : Prop :=
  ∀ (pins : List (Addr × Obj)) (s : Shared) (σ : St) (H : Hp) (x y : V) (v u : Value) (Q : VK), Inv X pins σ H s → RelV x v → RelV y u → r x y H Q →
    wpAny (model X.prog X.w) X.A (f v u) (EP X pins σ Q) X.xe s
/-- a call of a value that is known (a builtin, a type) with values -/
def CallR (X : Cx) (f : Value) (r : List V → Hp → VK → Prop) : Prop :=
  ∀ (pins : List (Addr × Obj)) (s : Shared) (σ : St) (H : Hp) (xs : List V) (us : List Value) (Q : VK), Inv X pins σ H s → Vals xs us → r xs H Q →
    wpAny (model X.prog X.w) X.A (call f us) (EP X pins σ Q) X.xe s

def tOp (r : R2) (ta tb : TE) : TE := fun σ H Q => ta σ H fun x H1 => tb σ H1 fun y H2 => r x y H2 Q
/-- ints in, under C, and a value out -/
def rI (C : Int → Int → Prop) (g : Int → Int → V) : R2 := fun x y H Q => ∃ i j, x = .int i ∧ y = .int j ∧ C i j ∧ Q (g i j) H
def rI0 (g : Int → Int → V) : R2 := fun x y H Q => ∃ i j, x = .int i ∧ y = .int j ∧ Q (g i j) H

section
variable {X : Cx} {a b c : Expr} {ta tb tc : TE} {pos : Pos}

theorem binT (ha : PE X a ta) (hb : PE X b tb) {pins : List (Addr × Obj)} {s : Shared} {σ : St} {H : Hp} {R : V → V → Hp → Prop} (I : Inv X pins σ H s)
    (h : ta σ H fun x H1 => tb σ H1 fun y H2 => R x y H2) {Q : Value → Shared → Prop} {f : Value → Value → Sem Value}
    (hf : ∀ v u s2 x y H2, Inv X pins σ H2 s2 → RelV x v → RelV y u → R x y H2 → wpAny (model X.prog X.w) X.A (f v u) Q X.xe s2) :
    wpAny (model X.prog X.w) X.A (eval a X.env) (fun v s₁ => wpAny (model X.prog X.w) X.A (eval b X.env) (fun u s₂ => wpAny (model X.prog X.w) X.A (f v u) Q X.xe s₂) X.xe s₁) X.xe s := by
  refine thn (ha pins s σ H _ I h) fun v s1 ⟨x, H1, I1, r1, q1⟩ => ?_
  refine thn (hb pins s1 σ H1 _ I1 q1) fun u s2 ⟨y, H2, I2, r2, q2⟩ => ?_
  exact hf v u s2 x y H2 I2 r1 r2 q2

theorem pe_op {op : Operator} {r : R2} (ho : OpR X (binaryOp op) r) (ha : PE X a ta) (hb : PE X b tb) : PE X (.BinOp a op b pos) (tOp r ta tb) := by
  intro pins s σ H Q I h
  exact wpAny_BinOp (binT ha hb I h fun v u s2 x y H2 I2 rx ry q => ho pins s2 σ H2 x y v u Q I2 rx ry q)

/-! ### ints -/
theorem opI {f : Value → Value → Sem Value} {C : Int → Int → Prop} {g : Int → Int → Int}
    (rule : ∀ (i j : Int) (t u : Tok) (s : Shared) (Q : Value → Shared → Prop) (E : Value → Shared → Prop), C i j → Q (.int (g i j) s.toks) { s with toks := s.toks + 1 } → wpAny (model X.prog X.w) X.A (f (.int i t) (.int j u)) Q E s) :
    OpR X f (rI C fun i j => .int (g i j)) := by
  intro pins s σ H x y v u Q I rx ry h
  obtain ⟨i, j, rfl, rfl, hc, q⟩ := h
  obtain ⟨t, rfl⟩ := rx
  obtain ⟨t', rfl⟩ := ry
  exact rule i j t t' s _ _ hc ⟨.int (g i j), H, I.tok _, ⟨_, rfl⟩, q⟩
theorem opI0 {f : Value → Value → Sem Value} {g : Int → Int → Int}
    (rule : ∀ (i j : Int) (t u : Tok) (s : Shared) (Q : Value → Shared → Prop) (E : Value → Shared → Prop), Q (.int (g i j) s.toks) { s with toks := s.toks + 1 } → wpAny (model X.prog X.w) X.A (f (.int i t) (.int j u)) Q E s) :
    OpR X f (rI0 fun i j => .int (g i j)) := by
  intro pins s σ H x y v u Q I rx ry h
  obtain ⟨i, j, rfl, rfl, q⟩ := h
  obtain ⟨t, rfl⟩ := rx
  obtain ⟨t', rfl⟩ := ry
  exact rule i j t t' s _ _ ⟨.int (g i j), H, I.tok _, ⟨_, rfl⟩, q⟩
theorem opB0 {f : Value → Value → Sem Value} {g : Int → Int → Bool}
    (rule : ∀ (i j : Int) (t u : Tok) (s : Shared) (Q : Value → Shared → Prop) (E : Value → Shared → Prop), Q (.bool (g i j)) s → wpAny (model X.prog X.w) X.A (f (.int i t) (.int j u)) Q E s) :
    OpR X f (rI0 fun i j => .bl (g i j)) := by
  intro pins s σ H x y v u Q I rx ry h
  obtain ⟨i, j, rfl, rfl, q⟩ := h
  obtain ⟨t, rfl⟩ := rx
  obtain ⟨t', rfl⟩ := ry
  exact rule i j t t' s _ _ ⟨.bl (g i j), H, I, rfl, q⟩

def CMul (i j : Int) : Prop := (-(2 ^ 64) < i ∧ i < 2 ^ 64) ∨ (-(2 ^ 64) < j ∧ j < 2 ^ 64)
theorem CMul.ok {i j : Int} (h : CMul i j) : IntMulOk i j := by
  rcases h with ⟨h1, h2⟩ | ⟨h1, h2⟩
  · exact .of_left (intBits_le_64 h1 h2)
  · exact .of_right (intBits_le_64 h1 h2)

theorem op_add : OpR X (binaryOp .Add) (rI0 fun i j => .int (i + j)) := opI0 fun _ _ _ _ _ _ _ q => add_int q
theorem op_sub : OpR X (binaryOp .Sub) (rI0 fun i j => .int (i - j)) := opI0 fun _ _ _ _ _ _ _ q => sub_int q
theorem op_mul : OpR X (binaryOp .Mult) (rI CMul fun i j => .int (i * j)) := opI fun _ _ _ _ _ _ _ hc q => mul_int q hc.ok
/-- % by a positive divisor of any size -/
theorem op_mod : OpR X (binaryOp .Mod) (rI (fun _ j => 0 < j) fun i j => .int (i % j)) := opI fun i j _ _ _ _ _ hc q => by
  have h1 : (0 : Int) < j := hc
  exact mod_int' (by omega) (by rw [Int.fmod_eq_emod_of_nonneg i (by omega)]; exact q)



/-! ### bools among ints: n += (a < b) -/
end

/-! ### comparisons -/
/-- the scalars that == tells apart as data does -/
def scal : V → V → Bool
  | .non, .non => true | .non, .int _ => true | .int _, .non => true | .non, .bl _ => true | .bl _, .non => true | .non, .str _ => true | .str _, .non => true
  | .int _, .int _ => true | .bl _, .bl _ => true | .str _, .str _ => true | .byt _, .byt _ => true
  | .int _, .str _ => true | .str _, .int _ => true | .bl _, .str _ => true | .str _, .bl _ => true
  | _, _ => false
def rEq : R2 := fun x y H Q => scal x y = true ∧ Q (.bl (decide (x = y))) H
def rNe : R2 := fun x y H Q => scal x y = true ∧ Q (.bl (!decide (x = y))) H

theorem dec_int {i j : Int} : decide (V.int i = V.int j) = (i == j) := by
  rw [Bool.eq_iff_iff]
  simp
theorem dec_bl {i j : Bool} : decide (V.bl i = V.bl j) = (i == j) := by
  rw [Bool.eq_iff_iff]
  simp
theorem dec_str {i j : Str} : decide (V.str i = V.str j) = (i == j) := by
  rw [Bool.eq_iff_iff]
  simp
theorem dec_byt {i j : Array UInt8} : decide (V.byt i = V.byt j) = (i.toList == j.toList) := by
  rw [Bool.eq_iff_iff]
  cases i
  cases j
  simp

section
variable {X : Cx} {a b c : Expr} {ta tb tc : TE} {pos : Pos}
theorem fin_bl {pins : List (Addr × Obj)} {σ : St} {H : Hp} {s : Shared} {Q : VK} {k k' : Bool} (I : Inv X pins σ H s) (q : Q (.bl k) H) (e : k = k') : EP X pins σ Q (.bool k') s := by
  subst e
  exact ⟨.bl k, H, I, rfl, q⟩
theorem op_eq : OpR X (compareOp .Eq) rEq := by
  intro pins s σ H x y v u Q I rx ry h
  obtain ⟨hs, q⟩ := h
  cases x with
  | non =>
    cases rx
    cases y with
    | non => cases ry; exact PySem.EqNone.eq_none_none (fin_bl I q (by simp))
    | bl j => cases ry; exact PySem.EqNone.eq_none_bool (fin_bl I q (by simp))
    | int j => obtain ⟨t', rfl⟩ := ry; exact PySem.EqNone.eq_none_int (fin_bl I q (by simp))
    | str j => obtain ⟨t', rfl⟩ := ry; exact PySem.EqNone.eq_none_str (fin_bl I q (by simp))
    | _ => exact absurd (show false = true from hs) Bool.false_ne_true
  | bl i =>
    cases rx
    cases y with
    | non => cases ry; exact PySem.EqNone.eq_bool_none (fin_bl I q (by simp))
    | bl j => cases ry; exact eq_bool (fin_bl I q dec_bl)
    | str j => obtain ⟨t', rfl⟩ := ry; exact PySem.EqMixed.eq_bool_str (fin_bl I q (by simp))
    | _ => exact absurd (show false = true from hs) Bool.false_ne_true
  | int i =>
    obtain ⟨t, rfl⟩ := rx
    cases y with
    | non => cases ry; exact PySem.EqNone.eq_int_none (fin_bl I q (by simp))
    | int j => obtain ⟨t', rfl⟩ := ry; exact eq_int (fin_bl I q dec_int)
    | str j => obtain ⟨t', rfl⟩ := ry; exact PySem.EqMixed.eq_int_str (fin_bl I q (by simp))
    | _ => exact absurd (show false = true from hs) Bool.false_ne_true
  | str i =>
    obtain ⟨t, rfl⟩ := rx
    cases y with
    | non => cases ry; exact PySem.EqNone.eq_str_none (fin_bl I q (by simp))
    | bl j => cases ry; exact PySem.EqMixed.eq_str_bool (fin_bl I q (by simp))
    | int j => obtain ⟨t', rfl⟩ := ry; exact PySem.EqMixed.eq_str_int (fin_bl I q (by simp))
    | str j => obtain ⟨t', rfl⟩ := ry; exact eq_str (fin_bl I q dec_str)
    | _ => exact absurd (show false = true from hs) Bool.false_ne_true
  | byt i =>
    obtain ⟨t, rfl⟩ := rx
    cases y with
    | byt j => obtain ⟨t', rfl⟩ := ry; exact PySem.W.eq_bytes (fin_bl I q dec_byt)
    | _ => exact absurd (show false = true from hs) Bool.false_ne_true
  | _ => cases y <;> exact absurd (show false = true from hs) Bool.false_ne_true
theorem op_ne : OpR X (compareOp .NotEq) rNe := by
  intro pins s σ H x y v u Q I rx ry h
  obtain ⟨hs, q⟩ := h
  cases x with
  | non =>
    cases rx
    cases y with
    | non => cases ry; exact PySem.EqNone.ne_none_none (fin_bl I q (by simp))
    | bl j => cases ry; exact PySem.EqNone.ne_none_bool (fin_bl I q (by simp))
    | int j => obtain ⟨t', rfl⟩ := ry; exact PySem.EqNone.ne_none_int (fin_bl I q (by simp))
    | str j => obtain ⟨t', rfl⟩ := ry; exact PySem.EqNone.ne_none_str (fin_bl I q (by simp))
    | _ => exact absurd (show false = true from hs) Bool.false_ne_true
  | bl i =>
    cases rx
    cases y with
    | non => cases ry; exact PySem.EqNone.ne_bool_none (fin_bl I q (by simp))
    | bl j => cases ry; exact ne_bool (fin_bl I q (congrArg not dec_bl))
    | str j => obtain ⟨t', rfl⟩ := ry; exact PySem.EqMixed.ne_bool_str (fin_bl I q (by simp))
    | _ => exact absurd (show false = true from hs) Bool.false_ne_true
  | int i =>
    obtain ⟨t, rfl⟩ := rx
    cases y with
    | non => cases ry; exact PySem.EqNone.ne_int_none (fin_bl I q (by simp))
    | int j => obtain ⟨t', rfl⟩ := ry; exact ne_int (fin_bl I q (congrArg not dec_int))
    | str j => obtain ⟨t', rfl⟩ := ry; exact PySem.EqMixed.ne_int_str (fin_bl I q (by simp))
    | _ => exact absurd (show false = true from hs) Bool.false_ne_true
  | str i =>
    obtain ⟨t, rfl⟩ := rx
    cases y with
    | non => cases ry; exact PySem.EqNone.ne_str_none (fin_bl I q (by simp))
    | bl j => cases ry; exact PySem.EqMixed.ne_str_bool (fin_bl I q (by simp))
    | int j => obtain ⟨t', rfl⟩ := ry; exact PySem.EqMixed.ne_str_int (fin_bl I q (by simp))
    | str j => obtain ⟨t', rfl⟩ := ry; exact ne_str (fin_bl I q (congrArg not dec_str))
    | _ => exact absurd (show false = true from hs) Bool.false_ne_true
  | byt i =>
    obtain ⟨t, rfl⟩ := rx
    cases y with
    | byt j => obtain ⟨t', rfl⟩ := ry; exact PySem.W.ne_bytes (fin_bl I q (congrArg not dec_byt))
    | _ => exact absurd (show false = true from hs) Bool.false_ne_true
  | _ => cases y <;> exact absurd (show false = true from hs) Bool.false_ne_true

theorem op_lt : OpR X (compareOp .Lt) (rI0 fun i j => .bl (decide (i < j))) := opB0 fun _ _ _ _ _ _ _ q => lt_int q
theorem op_le : OpR X (compareOp .LtE) (rI0 fun i j => .bl (decide (i ≤ j))) := opB0 fun _ _ _ _ _ _ _ q => le_int q
theorem op_gt : OpR X (compareOp .Gt) (rI0 fun i j => .bl (decide (j < i))) := opB0 fun _ _ _ _ _ _ _ q => gt_int q
theorem op_ge : OpR X (compareOp .GtE) (rI0 fun i j => .bl (decide (j ≤ i))) := opB0 fun _ _ _ _ _ _ _ q => ge_int q




theorem nomark (b : Expr) {op : CmpOp} (h : op ≠ .In := by decide) (h2 : op ≠ .NotIn := by decide) : behindInMarks op b = false := by
  have e1 : (op == CmpOp.In) = false := by cases op <;> first | rfl | exact absurd rfl h
  have e2 : (op == CmpOp.NotIn) = false := by cases op <;> first | rfl | exact absurd rfl h2
  cases b <;> simp [behindInMarks, e1, e2]
/-- a comparison as a value; hm: nomark b, or (for in, not in) by with_unfolding_all rfl -/
theorem pe_cmpR {op : CmpOp} {r : R2} (ho : OpR X (compareOp op) r) (ha : PE X a ta) (hb : PE X b tb) (hm : behindInMarks op b = false) : PE X (.Compare a [op] [b] pos) (tOp r ta tb) := by
  intro pins s σ H Q I h
  exact wpAny_Compare1 (binT ha hb I h fun v u s2 x y H2 I2 rx ry q => ho pins s2 σ H2 x y v u Q I2 rx ry q) hm
/-- a reading of a value as a test -/
def tTest (t : TE) : TT := fun σ H Q => t σ H fun x H' => ∃ k, x = .bl k ∧ Q k H'
theorem pt_cmpR {op : CmpOp} {r : R2} (ho : OpR X (compareOp op) r) (ha : PE X a ta) (hb : PE X b tb) (hm : behindInMarks op b = false) : PT X (.Compare a [op] [b] pos) (tTest (tOp r ta tb)) := by
  intro pins s σ H Q I h
  refine wpAny_isTrue_Compare1 (thn (ha pins s σ H _ I h) fun v s1 ⟨x, H1, I1, r1, q1⟩ => thn (hb pins s1 σ H1 _ I1 q1) fun u s2 ⟨y, H2, I2, r2, q2⟩ =>
    thn (ho pins s2 σ H2 x y v u _ I2 r1 r2 q2) fun c s3 ⟨z, H3, I3, r3, k, e, q3⟩ => ?_) hm
  subst e
  cases r3
  exact wpAny_truthy_bool ⟨H3, I3, q3⟩
/-- a op1 b op2 c -/
def tChain (r r' : R2) (ta tb tc : TE) : TE := fun σ H Q => ta σ H fun x H1 => tb σ H1 fun y H2 => r x y H2 fun z H3 => ∃ k, z = .bl k ∧
  (if k = true then tc σ H3 fun w' H4 => r' y w' H4 Q else Q (.bl false) H3)
theorem pe_chain {op op' : CmpOp} {r r' : R2} (ho : OpR X (compareOp op) r) (ho' : OpR X (compareOp op') r') (ha : PE X a ta) (hb : PE X b tb) (hc : PE X c tc)
    (hm : lastMarks [op, op'] [b, c] = false := by with_unfolding_all rfl) : PE X (.Compare a [op, op'] [b, c] pos) (tChain r r' ta tb tc) := by
  intro pins s σ H Q I h
  refine Compare_chain (thn (ha pins s σ H _ I h) fun v s1 ⟨x, H1, I1, r1, q1⟩ => chain_link (thn (hb pins s1 σ H1 _ I1 q1) fun u s2 ⟨y, H2, I2, r2, q2⟩ =>
    thn (ho pins s2 σ H2 x y v u _ I2 r1 r2 q2) fun d s3 ⟨z, H3, I3, r3, k, e, q3⟩ => ?_)) hm
  subst e
  cases r3
  refine wpAny_truthy_bool ?_
  cases k with
  | false => exact ite_ff ⟨.bl false, H3, I3, rfl, q3⟩
  | true => exact ite_tt (chain_last (thn (hc pins s3 σ H3 _ I3 q3) fun w' s4 ⟨z', H4, I4, r4, q4⟩ => ho' pins s4 σ H4 y z' u w' Q I4 r2 r4 q4))
theorem pt_chain {op op' : CmpOp} {r r' : R2} (ho : OpR X (compareOp op) r) (ho' : OpR X (compareOp op') r') (ha : PE X a ta) (hb : PE X b tb) (hc : PE X c tc)
    (hm : lastMarks [op, op'] [b, c] = false := by with_unfolding_all rfl) : PT X (.Compare a [op, op'] [b, c] pos) (tTest (tChain r r' ta tb tc)) := by
  intro pins s σ H Q I h
  refine isTrue_chain (thn (ha pins s σ H _ I h) fun v s1 ⟨x, H1, I1, r1, q1⟩ => test_link (thn (hb pins s1 σ H1 _ I1 q1) fun u s2 ⟨y, H2, I2, r2, q2⟩ =>
    thn (ho pins s2 σ H2 x y v u _ I2 r1 r2 q2) fun d s3 ⟨z, H3, I3, r3, k, e, q3⟩ => ?_)) hm
  subst e
  cases r3
  refine wpAny_truthy_bool ?_
  cases k with
  | false =>
    obtain ⟨k', e', q'⟩ := q3
    cases e'
    exact ite_ff ⟨H3, I3, q'⟩
  | true =>
    refine ite_tt (test_last (thn (hc pins s3 σ H3 _ I3 q3) fun w' s4 ⟨z', H4, I4, r4, q4⟩ => thn (ho' pins s4 σ H4 y z' u w' _ I4 r2 r4 q4) fun d' s5 ⟨z2, H5, I5, r5, k2, e2, q5⟩ => ?_))
    subst e2
    cases r5
    exact wpAny_truthy_bool ⟨H5, I5, q5⟩

/-! ### truth -/
theorem line63 : (sizeLine : Nat) < 2 ^ 63 := by rw [sizeLine_eq]; decide

/-! ### strs and bytes -/


/-! ### scalar builtins, by CallR -/
theorem vals1 {x : V} {us : List Value} (r : Vals [x] us) : ∃ u, us = [u] ∧ RelV x u := by
  cases r with
  | cons r1 r2 => cases r2; exact ⟨_, rfl, r1⟩
theorem vals2 {x y : V} {us : List Value} (r : Vals [x, y] us) : ∃ u w', us = [u, w'] ∧ RelV x u ∧ RelV y w' := by
  cases r with
  | cons r1 r2 =>
    cases r2 with
    | cons r3 r4 => cases r4; exact ⟨_, _, rfl, r1, r3⟩
theorem call_min2 (hc : X.calm = true) : CallR X (.builtin "min") (fun xs H Q => ∃ i j, xs = [.int i, .int j] ∧ Q (.int (if j < i then j else i)) H) := by
  intro pins s σ H xs us Q I r h
  obtain ⟨i, j, rfl, q⟩ := h
  obtain ⟨u, w', rfl, ⟨t, rfl⟩, ⟨t', rfl⟩⟩ := vals2 r
  refine min_two_ints (I.ok.hd hc) fun h' tk k => ⟨_, H, I.kept k, ?_, q⟩
  by_cases hj : j < i
  · rw [if_pos hj, if_pos hj]; exact ⟨_, rfl⟩
  · rw [if_neg hj, if_neg hj]; exact ⟨_, rfl⟩
end
end L2

namespace L2
open PySem PySem.Spec PyProof.Rows

/-! ### an instance, its attributes a map -/
structure ObjM (h : Heap) (x dx C : Addr) (mA : Str → Option Value) : Prop where
  obj : h.get? x = some (PySem.W.instObj C dx)
  ns : h.Ns1 dx mA
  ne : dx ≠ x

theorem lookIn_ns {h : Heap} {dx : Addr} {mA : Str → Option Value} (n : h.Ns1 dx mA) : ∃ od, h.get? dx = some od ∧ ∀ name, PySem.W.lookIn name od = some (mA name) := by
  obtain ⟨o, es, ep, ho, hd, hk, _, hm⟩ := n
  refine ⟨o, ho, fun name => ?_⟩
  have e := hm name
  unfold nsFind findBy at e
  rw [← Array.find?_toList] at e
  unfold PySem.W.lookIn
  rw [hd]
  dsimp only
  split
  · rename_i y q
    rw [q] at e
    exact congrArg some e
  · rename_i q
    rw [q] at e
    have a : es.toList.any (·.refKey) = false := by
      rw [List.any_eq_false]
      intro y hy
      obtain ⟨z, t, hkey⟩ := hk y (Array.mem_toList_iff.mp hy)
      simp [DictEntry.refKey, hkey]
    have a' : ¬ es.toList.any (·.refKey) = true := by rw [a]; exact Bool.false_ne_true
    rw [if_neg a']
    exact congrArg some e

theorem ObjM.look {h : Heap} {x dx C : Addr} {mA : Str → Option Value} (I : ObjM h x dx C mA) : ∃ od, PySem.W.InstAt h x (PySem.W.instObj C dx) C (some od) ∧ ∀ name, PySem.W.lookIn name od = some (mA name) :=
  let ⟨od, ho, hl⟩ := lookIn_ns I.ns
  ⟨od, ⟨I.obj, rfl, rfl, ho⟩, hl⟩

section
variable {prog : Program} {w : World} {A : Around} {E : Value → Shared → Prop} {s : Shared} {K : PySem.W.Frag} {x dx C f : Addr} {mA : Str → Option Value} {name : Str} {v : Value}

theorem get_map {expr : Bool} {Q : Value → Shared → Prop} (X : K.In s.heap) (I : ObjM s.heap x dx C mA) (hg : PySem.W.plainGet K C name = true) (hh : PySem.W.hasDictIn K C = true)
    (ha : PySem.W.findIn K (.ref C) name = some none) (hv : mA name = some v) (hv' : PySem.W.handedIn v = true) (h : Q v { s with toks := s.toks + 1 }) :
    wpAny (model prog w) A (getAttr (.ref x) name expr) Q E s := by
  obtain ⟨od, J, hl⟩ := I.look
  exact PySem.W.get_value X J (PySem.W.plainGet_of hg).1 (PySem.W.findObj_own hh ha rfl (by rw [hl, hv])) hv' h


theorem get_meth {pl : Sem Bool} {Q : Value × List Value → Shared → Prop} (X : K.In s.heap) (I : ObjM s.heap x dx C mA) (hg : PySem.W.plainGet K C name = true)
    (hf : PySem.W.findIn K (.ref C) name = some (some (.ref f))) (ht : PySem.W.isFn K (.ref f) = true) (hv : mA name = none) (h : Q (.ref f, [.ref x]) s) :
    wpAny (model prog w) A (getMethod (.ref x) name pl) Q E s := by
  obtain ⟨od, J, hl⟩ := I.look
  exact PySem.W.method_fn X J (PySem.W.plainGet_of hg).1 (PySem.W.plainGet_of hg).2 hf (beq_iff_eq.mp ht) (by show (PySem.W.lookIn name od).map (·.isSome) = some false; rw [hl, hv]; rfl) h

theorem set_map {ns : List Str} {Q : Unit → Shared → Prop} (X : K.In s.heap) (I : ObjM s.heap x dx C mA)
    (hs : PySem.W.findIn K (.ref C) "__setattr__" = some (some (.builtin "object.__setattr__"))) (hp : PySem.W.plainOver K C = true) (ht : PySem.W.takerIn K C name = some none) (hh : PySem.W.hasDictIn K C = true)
    (hw : PySem.Within mA ns) (hsz : ns.length ≤ sizeLine)
    (h : ∀ h', ObjM h' x dx C (fun y => if y = name then some v else mA y) → Heap.SameBut dx s.heap h' → Q () { s with heap := h', toks := s.toks + 2 }) :
    wpAny (model prog w) A (setAttr (.ref x) name v) Q E s := by
  obtain ⟨od, J, hl⟩ := I.look
  refine PySem.W.set_plain X J hs (PySem.W.osa_open (s := { s with toks := s.toks + 1 }) (r := none) X J hp ht fun b => ?_)
  obtain ⟨cd, hc, hd'⟩ := PySem.W.any_some hh
  have hx : s.heap.get? x = some ⟨.ref C, some dx, .plain, #[]⟩ := I.obj
  refine wpAny_bind (wpAny_pure (wpAny_bind (wpAny_bind (wpAny_loadPart hx (wpAny_bind (PySem.W.Looks.here (s := { s with toks := s.toks + 1 }) (PySem.W.looks_clsIn X hc) ?_))))))
  rw [hd']
  refine wpAny_pure (a := some dx) (wpAny_bind (wpAny_pure (wpAny_bind ?_)))
  refine wpAny_nsSet1 (s := { s with toks := s.toks + 1 }) I.ns fun h' hn2 hs2 => ?_
  obtain ⟨oD, esD, epD, hoD, hdD, hcD⟩ := hn2.count (PySem.Within.cons name v hw)
  refine wpAny_bind (wpAny_lookBehind hoD (by rw [hdD]; exact pastItsLine_dict (Nat.le_trans hcD (by rw [List.length_cons]; omega))) ?_)
  exact wpAny_pure (h _ ⟨(hs2.2 _ (Ne.symm I.ne)).trans I.obj, hn2, I.ne⟩ hs2)

/-- C(..): the dict at the heap's end, the instance behind it; then its __init__ -/
theorem make_map {R : Result → Shared → Prop} {vs : List Value} {kw : List (Str × Value)} (X : K.In s.heap) (hm : PySem.W.makesIn K C = true)
    (hi : PySem.W.findIn K (.ref C) "__init__" = some (some (.ref f))) (hf : PySem.W.typeIn K (.ref f) = some (.type "function"))
    (h : codeAny (model prog w) (A.under (.builtin "type.__call__" ⟨.ref C :: vs, kw⟩)) (.call (.ref f) ⟨.ref (s.heap.objs.size + 1) :: vs, kw⟩) (PySem.W.InitBack (s.heap.objs.size + 1) R)
      { s with heap := (s.heap.push PySem.W.emptyDict).push (PySem.W.instObj C s.heap.objs.size) }) :
    codeAny (model prog w) A (.call (.ref C) ⟨vs, kw⟩) R s := by
  obtain ⟨hh, g, d, t, os⟩ := s
  exact PySem.W.make_core (PySem.W.makes_of X hm) (PySem.W.looks_findIn X hi) (fun self => PySem.W.bind_fn X self hf) (.inl rfl) h
end

/-! ### the attributes as a list of pairs -/
def putF (f : Str) (v : V) : List (Str × V) → List (Str × V)
  | [] => [(f, v)]
  | (g, x) :: r => if g = f then (g, v) :: r else (g, x) :: putF f v r
theorem lookup_putF (f g : Str) (v : V) : ∀ fs : List (Str × V), (putF f v fs).lookup g = if g = f then some v else fs.lookup g
  | [] => by
    show List.lookup g [(f, v)] = _
    by_cases h : g = f
    · have hb : (g == f) = true := beq_iff_eq.mpr h
      simp only [List.lookup, hb, if_pos h]
    · have hb : (g == f) = false := beq_eq_false_iff_ne.mpr h
      simp only [List.lookup, hb, if_neg h]
  | (k, x) :: r => by
    have ih := lookup_putF f g v r
    rw [show putF f v ((k, x) :: r) = (if k = f then (k, v) :: r else (k, x) :: putF f v r) from rfl]
    by_cases hk : k = f
    · rw [if_pos hk]
      by_cases h : g = k
      · have hb : (g == k) = true := beq_iff_eq.mpr h
        simp only [List.lookup, hb, if_pos (h.trans hk)]
      · have hb : (g == k) = false := beq_eq_false_iff_ne.mpr h
        simp only [List.lookup, hb, if_neg (fun e : g = f => h (e.trans hk.symm))]
    · rw [if_neg hk]
      by_cases h : g = k
      · have hb : (g == k) = true := beq_iff_eq.mpr h
        simp only [List.lookup, hb, if_neg (fun e : g = f => hk (h.symm.trans e))]
      · have hb : (g == k) = false := beq_eq_false_iff_ne.mpr h
        simp only [List.lookup, hb]
        exact ih
theorem keys_putF (f : Str) (v : V) : ∀ fs : List (Str × V), f ∈ (putF f v fs).map (·.1) ∧ ∀ g, g ∈ fs.map (·.1) → g ∈ (putF f v fs).map (·.1)
  | [] => ⟨by simp [putF], fun g h => by simp at h⟩
  | (k, x) :: r => by
    obtain ⟨i1, i2⟩ := keys_putF f v r
    rw [show putF f v ((k, x) :: r) = (if k = f then (k, v) :: r else (k, x) :: putF f v r) from rfl]
    by_cases hk : k = f
    · rw [if_pos hk]
      subst hk
      exact ⟨by simp, fun g h => by simpa using h⟩
    · rw [if_neg hk]
      refine ⟨?_, fun g h => ?_⟩
      · rw [List.map_cons]
        exact List.mem_cons_of_mem _ i1
      · rw [List.map_cons] at h ⊢
        rcases List.mem_cons.mp h with e | e
        · exact List.mem_cons.mpr (.inl e)
        · exact List.mem_cons_of_mem _ (i2 g e)
theorem length_putF (f : Str) (v : V) : ∀ fs : List (Str × V), (putF f v fs).length ≤ fs.length + 1
  | [] => by simp [putF]
  | (k, x) :: r => by
    have ih := length_putF f v r
    rw [show putF f v ((k, x) :: r) = (if k = f then (k, v) :: r else (k, x) :: putF f v r) from rfl]
    by_cases hk : k = f
    · rw [if_pos hk, List.length_cons, List.length_cons]; omega
    · rw [if_neg hk, List.length_cons, List.length_cons]; omega

theorem RelO.some_of {v : V} {o : Option Value} (r : RelO (some v) o) : ∃ u, o = some u ∧ RelV v u := by
  cases o with
  | none => exact (show False from r).elim
  | some u => exact ⟨u, rfl, r⟩
theorem RelO.none_of {o : Option Value} (r : RelO none o) : o = none := by
  cases o with
  | none => rfl
  | some u => exact (show False from r).elim
theorem handed_of {v : V} {u : Value} (r : RelV v u) : PySem.W.handedIn u = true := by
  cases v with
  | non => cases (show u = Value.none from r); rfl
  | bl b => cases (show u = Value.bool b from r); rfl
  | int i => obtain ⟨t, e⟩ := (show ∃ t, u = Value.int i t from r); cases e; rfl
  | str x => obtain ⟨t, e⟩ := (show ∃ t, u = Value.str x t from r); cases e; rfl
  | byt b => obtain ⟨t, e⟩ := (show ∃ t, u = Value.bytes b t from r); cases e; rfl
  | flt b => obtain ⟨t, e⟩ := (show ∃ t, u = Value.float b t from r); cases e; rfl
  | ref a => cases (show u = Value.ref a from r); rfl
  | ty n => cases (show u = Value.type n from r); rfl

section
variable {P : Program} {w : World} {H H' : Hp} {h h' : Heap} {a C dx : Addr} {fs fs' : List (Str × V)}
theorem ins_get (hok : HOk P w H h) (e : H a = some (.ins C dx fs)) : ∃ mA, ObjM h a dx C mA ∧ (∀ f, RelO (fs.lookup f) (mA f)) ∧ PySem.Within mA (fs.map (·.1)) ∧ fs.length ≤ 1000 ∧ H dx = some (.own a) := by
  obtain ⟨d, z, ne, ob, mA, n, r, q⟩ := (show ObjOk P w H h a (.ins C dx fs) from hok a _ e)
  exact ⟨mA, ⟨ob, n, ne⟩, r, q, z, d⟩
end

/-! ### what of the text a class must have -/
structure Cls (K : PySem.W.Frag) (C : Addr) : Prop where
  pg : PySem.W.plainGet K C Str.empty = true
  hd : PySem.W.hasDictIn K C = true
  po : PySem.W.plainOver K C = true
  sa : PySem.W.findIn K (.ref C) "__setattr__" = some (some (.builtin "object.__setattr__"))
theorem Cls.get {K : PySem.W.Frag} {C : Addr} (c : Cls K C) (f : Str) : PySem.W.plainGet K C f = true := c.pg
/-- no class of it has the name -/
def NoAttr (K : PySem.W.Frag) (C : Addr) (f : Str) : Prop := PySem.W.findIn K (.ref C) f = some none
theorem NoAttr.taker {K : PySem.W.Frag} {C : Addr} {f : Str} (n : NoAttr K C f) : PySem.W.takerIn K C f = some none := by
  unfold PySem.W.takerIn
  rw [show PySem.W.findIn K (.ref C) f = some none from n]
  rfl
/-- a constant of the class -/
structure Con (K : PySem.W.Frag) (C : Addr) (f : Str) (v : V) (u : Value) : Prop where
  at_ : PySem.W.findIn K (.ref C) f = some (some u)
  rel : RelV v u
  get : PySem.W.specialIn K u "__get__" = some none
  cp : PySem.W.copiedNames.contains f = false
/-- a method: a plain def of the class or of one above it -/
structure Meth (K : PySem.W.Frag) (C : Addr) (m : Str) (f : Addr) : Prop where
  at_ : PySem.W.findIn K (.ref C) m = some (some (.ref f))
  fn : PySem.W.isFn K (.ref f) = true
  kp : PySem.W.keepIn K (.ref f) = true

section
variable {X : Cx} {pins : List (Addr × Obj)} {σ : St} {H : Hp} {s : Shared} {a C dx : Addr} {fs : List (Str × V)} {f : Str} {v : V} {A : Around} {E : Value → Shared → Prop}

theorem getattr_ok {b : Bool} {Q : Value → Shared → Prop} (I : Inv X pins σ H s) (e : H a = some (.ins C dx fs)) (c : Cls X.K C) (n : NoAttr X.K C f) (l : fs.lookup f = some v)
    (h : ∀ u s', Inv X pins σ H s' → RelV v u → Q u s') : wpAny (model X.prog X.w) A (getAttr (.ref a) f b) Q E s := by
  obtain ⟨mA, O, r, _, _, _⟩ := ins_get I.hok e
  obtain ⟨u, hu, ru⟩ := RelO.some_of (v := v) (o := mA f) (by rw [← l]; exact r f)
  exact get_map I.kIn O (c.get f) c.hd n hu (handed_of ru) (h u _ (I.tok _) ru)


theorem getmeth_ok {m : Str} {g : Addr} {pl : Sem Bool} {Q : Value × List Value → Shared → Prop} (I : Inv X pins σ H s) (e : H a = some (.ins C dx fs)) (c : Cls X.K C) (k : Meth X.K C m g) (l : fs.lookup m = none)
    (h : Q (.ref g, [.ref a]) s) : wpAny (model X.prog X.w) A (getMethod (.ref a) m pl) Q E s := by
  obtain ⟨mA, O, r, _, _, _⟩ := ins_get I.hok e
  have hn : mA m = none := RelO.none_of (by rw [← l]; exact r m)
  exact get_meth I.kIn O (c.get m) k.at_ k.fn hn h

theorem setattr_ok {y : V} {u : Value} {Q : Unit → Shared → Prop} (I : Inv X pins σ H s) (e : H a = some (.ins C dx fs)) (c : Cls X.K C) (n : NoAttr X.K C f) (hl : fs.length < 1000) (ry : RelV y u)
    (h : ∀ s', Inv X pins σ (upd H a (.ins C dx (putF f y fs))) s' → Q () s') : wpAny (model X.prog X.w) A (setAttr (.ref a) f u) Q E s := by
  obtain ⟨mA, O, r, wi, _, ho⟩ := ins_get I.hok e
  have hz : (fs.map (·.1)).length ≤ sizeLine := by rw [List.length_map, sizeLine_eq]; omega
  refine set_map I.kIn O c.sa c.po n.taker c.hd wi hz fun h' O' sb => h _ ?_
  have hd : ∃ o, h'.get? dx = some o := let ⟨o, _, _, e', _⟩ := O'.ns; ⟨o, e'⟩
  refine I.write (x := a) (e := dx) (by rw [e]; exact True.intro) (.inr ho) (fun b q hb z => (sb.2 b hb).trans z) hd ?_
  refine ⟨by rw [upd_ne O.ne]; exact ho, ?_, O.ne, O'.obj, _, O'.ns, fun g => ?_, fun g hg => ?_⟩
  · have := length_putF f y fs; omega
  · show RelO ((putF f y fs).lookup g) (if g = f then some u else mA g)
    rw [lookup_putF]
    by_cases q : g = f
    · rw [if_pos q, if_pos q]; exact ry
    · rw [if_neg q, if_neg q]; exact r g
  · by_cases q : g = f
    · rw [q]; exact (keys_putF f y fs).1
    · refine (keys_putF f y fs).2 g (wi g fun z => hg ?_)
      show (if g = f then some u else mA g) = none
      rw [if_neg q]; exact z

/-- a new instance, tracked, without attributes -/
theorem Inv.made (I : Inv X pins σ H s) : Inv X pins σ (upd (upd H s.heap.objs.size (.own (s.heap.objs.size + 1))) (s.heap.objs.size + 1) (.ins C s.heap.objs.size []))
    { s with heap := (s.heap.push PySem.W.emptyDict).push (PySem.W.instObj C s.heap.objs.size) } := by
  have e1 : (s.heap.push PySem.W.emptyDict).get? s.heap.objs.size = some PySem.W.emptyDict := Heap.get?_push_size s.heap rfl
  have e2 : ((s.heap.push PySem.W.emptyDict).push (PySem.W.instObj C s.heap.objs.size)).get? (s.heap.objs.size + 1) = some (PySem.W.instObj C s.heap.objs.size) := by
    have := Heap.get?_push_size (s.heap.push PySem.W.emptyDict) (o := PySem.W.instObj C s.heap.objs.size) rfl
    rwa [Heap.size_push] at this
  have e3 : (s.heap.push PySem.W.emptyDict).Ns s.heap.objs.size (fun _ => none) := ⟨PySem.W.emptyDict, #[], _, e1, rfl, (fun e he => absurd he (by simp)), fun _ => rfl⟩
  have I1 := I.laid (a := s.heap.objs.size) (o := .own (s.heap.objs.size + 1)) (h' := s.heap.push PySem.W.emptyDict) (t' := s.toks) (fun b u q => Heap.get?_push_of_some _ q) (Nat.le_refl _) ⟨_, e1⟩
  refine I1.laid (a := s.heap.objs.size + 1) (o := .ins C s.heap.objs.size []) (t' := s.toks) (fun b u q => Heap.get?_push_of_some _ q) (Nat.le_of_eq (Heap.size_push _ _)) ?_
  have ne : s.heap.objs.size ≠ s.heap.objs.size + 1 := Nat.ne_of_lt (Nat.lt_succ_self _)
  refine ⟨by rw [upd_ne ne, upd_same], Nat.zero_le _, ne, e2, fun _ => none, (Heap.Ns1.of_empty e3).at fun o q => Heap.get?_push_of_some _ q, fun _ => True.intro, fun y hy => absurd rfl hy⟩

/-- e.f where nothing but the object is asked: through attributeBase (super) and the last hold -/
theorem attr_of {prog : Program} {w : World} {env : Env} {e : Expr} {f : Str} {pos : Pos} {s : Shared} {Q : Value → Shared → Prop} (hb : attributeBase e f env (eval e env) = eval e env)
    (h : wpAny (model prog w) A (eval e env) (fun o s₁ => wpAny (model prog w) A (getAttr o f true) Q E s₁) E s) : wpAny (model prog w) A (eval (.Attribute e f pos) env) Q E s :=
  Attribute_any_ h (by rw [arm_eval_Attribute, hb])
end

/-! ### readings and rules -/
/-- e.f, an attribute of the instance -/
def tFld (K : PySem.W.Frag) (ta : TE) (f : Str) : TE := fun σ H Q => ta σ H fun x H1 => ∃ a C dx fs v, x = .ref a ∧ H1 a = some (.ins C dx fs) ∧ Cls K C ∧ NoAttr K C f ∧ fs.lookup f = some v ∧ Q v H1
/-- e.f = value -/
def sFld (K : PySem.W.Frag) (ta tv : TE) (f : Str) : TS := fun D σ H => tv σ H fun y H1 => ta σ H1 fun x H2 => ∃ a C dx fs, x = .ref a ∧ H2 a = some (.ins C dx fs) ∧ Cls K C ∧ NoAttr K C f ∧ fs.length < 1000 ∧
  D.nx σ (upd H2 a (.ins C dx (putF f y fs)))

section
variable {X : Cx} {o e value : Expr} {f : Str} {pos pos' tpos : Pos} {ta tv : TE}
theorem pe_fld (he : PE X e ta) (hb : attributeBase e f X.env (eval e X.env) = eval e X.env) : PE X (.Attribute e f pos) (tFld X.K ta f) := by
  intro pins s σ H Q I h
  refine attr_of hb (thn (he pins s σ H _ I h) fun u s1 ⟨x, H1, I1, rx, a, C, dx, fs, v, ex, ea, c, n, l, q⟩ => ?_)
  subst ex
  obtain rfl : u = Value.ref a := rx
  exact getattr_ok I1 ea c n l fun u' s2 I2 ru => ⟨v, H1, I2, ru, q⟩
theorem ps_fld (ha : PE X o ta) (hv : PE X value tv) (hs : swapsWith value (some (.Attribute o f pos')) pos.line X.env = pure false) : PS X (.Assign [.Attribute o f pos'] value pos) (sFld X.K ta tv f) := by
  intro pins s σ H D I h
  refine plainObj_wpAny_Assign_Attribute (thn (hv pins s σ H _ I h) fun u s1 ⟨y, H1, I1, ry, q⟩ => thn (ha pins s1 σ H1 _ I1 q) fun ov s2 ⟨x, H2, I2, rx, a, C, dx, fs, ex, ea, c, n, l, q2⟩ => ?_) hs
  subst ex
  obtain rfl : ov = Value.ref a := rx
  exact setattr_ok I2 ea c n l ry fun s3 I3 => ⟨σ, _, I3, q2⟩

end

/-! ### isinstance -/
section
variable {X : Cx} {pins : List (Addr × Obj)} {σ : St} {H : Hp} {s : Shared} {A : Around} {E : Value → Shared → Prop} {Q : Value → Shared → Prop} {c : Value} {b : Bool}
/-- the type of a value, as the fragment's deciders take it; for an instance its class -/
inductive TyOf (K : PySem.W.Frag) (H : Hp) : V → Value → Prop where
  | non : TyOf K H .non (.type "NoneType")
  | bl (x : Bool) : TyOf K H (.bl x) (.type "bool")
  | int (i : Int) : TyOf K H (.int i) (.type "int")
  | str (x : Str) : TyOf K H (.str x) (.type "str")
  | flt (x : UInt64) : TyOf K H (.flt x) (.type "float")
  | lst {a : Addr} {xs : List V} (e : H a = some (.lst xs)) : TyOf K H (.ref a) (.type "list")
  | frz {a : Addr} {o : Obj} {xs : List V} (e : H a = some (.frz o (.lst xs))) : TyOf K H (.ref a) (.type "list")
  | tup {a : Addr} {xs : List V} (e : H a = some (.tup xs)) : TyOf K H (.ref a) (.type "tuple")
  | dK {a : Addr} {kvs : List (Key × V)} (e : H a = some (.dK kvs)) : TyOf K H (.ref a) (.type "dict")
  | dT {a : Addr} {kvs : List (List Key × V)} (e : H a = some (.dT kvs)) : TyOf K H (.ref a) (.type "dict")
  | ins {a C dx : Addr} {fs : List (Str × V)} (e : H a = some (.ins C dx fs)) (cl : Cls K C) (ha : PySem.W.findIn K (.ref C) "__class__" = some (some (.builtin "object.__class__")))
      (hn : PySem.W.specialIn K (.builtin "object.__class__") "__get__" = some (some (.builtin "getset_descriptor.__get__"))) (htk : PySem.W.takesIn K (.builtin "object.__class__") = some true)
      (hm : PySem.W.mroIn K C (.type "object") = some true) : TyOf K H (.ref a) (.ref C)
/-- isinstance(x, c) for one class c, a built-in or an own one: kitOne's answer -/
theorem isinst_ok {x : V} {u t : Value} (I : Inv X pins σ H s) (rx : RelV x u) (ty : TyOf X.K H x t) (e : PySem.W.kitOne X.K t c = some b) (h : ∀ tk, Q (.bool b) { s with toks := tk }) :
    wpAny (model X.prog X.w) A (call (.builtin "isinstance") [u, c]) Q E s := by
  cases ty with
  | non => cases (show u = Value.none from rx); exact PySem.W.kia_one PySem.W.kitx_none I.kIn True.intro e (fun z => nomatch z) h
  | bl y => cases (show u = Value.bool y from rx); exact PySem.W.kia_one PySem.W.kitx_bool I.kIn True.intro e (fun z => nomatch z) h
  | int i => obtain ⟨t, q⟩ := (show ∃ t, u = Value.int i t from rx); cases q; exact PySem.W.kia_one PySem.W.kitx_int I.kIn True.intro e (fun z => nomatch z) h
  | str y => obtain ⟨t, q⟩ := (show ∃ t, u = Value.str y t from rx); cases q; exact PySem.W.kia_one PySem.W.kitx_str I.kIn True.intro e (fun z => nomatch z) h
  | flt y => obtain ⟨t, q⟩ := (show ∃ t, u = Value.float y t from rx); cases q; exact PySem.W.kia_one PySem.W.kitx_float I.kIn True.intro e (fun z => nomatch z) h
  | @lst a xs ea =>
    cases (show u = Value.ref a from rx)
    obtain ⟨_, _, n, _, h1⟩ := (show ObjOk X.prog X.w H s.heap a (.lst xs) from I.hok a _ ea)
    exact PySem.W.kia_one PySem.W.kitx_list I.kIn ⟨_, h1, rfl⟩ e (fun z => nomatch z) h
  | @frz a ob xs ea =>
    cases (show u = Value.ref a from rx)
    obtain ⟨_, _, _, n, _, h1⟩ := (show ObjOk X.prog X.w H s.heap a (.frz ob (.lst xs)) from I.hok a _ ea)
    exact PySem.W.kia_one PySem.W.kitx_list I.kIn ⟨_, h1, rfl⟩ e (fun z => nomatch z) h
  | @tup a xs ea =>
    cases (show u = Value.ref a from rx)
    obtain ⟨_, _, _, p⟩ := (show ObjOk X.prog X.w H s.heap a (.tup xs) from I.hok a _ ea)
    obtain ⟨o, h1, h2, _⟩ := p
    exact PySem.W.kia_one PySem.W.kitx_tuple I.kIn ⟨o, h1, h2⟩ e (fun z => nomatch z) h
  | @dK a kvs ea =>
    cases (show u = Value.ref a from rx)
    obtain ⟨_, _, vs, _, p⟩ := (show ObjOk X.prog X.w H s.heap a (.dK kvs) from I.hok a _ ea)
    obtain ⟨o, es, ep, h1, h2, _⟩ := p
    exact PySem.W.kia_one PySem.W.kitx_dict I.kIn ⟨o, h1, h2.1⟩ e (fun z => nomatch z) h
  | @dT a kvs ea =>
    cases (show u = Value.ref a from rx)
    obtain ⟨_, _, xs, _, o, es, ep, h1, h2, _⟩ := (show ObjOk X.prog X.w H s.heap a (.dT kvs) from I.hok a _ ea)
    exact PySem.W.kia_one PySem.W.kitx_dict I.kIn ⟨o, h1, h2.1⟩ e (fun z => nomatch z) h
  | @ins a C dx fs ea cl ha hn htk hm =>
    cases (show u = Value.ref a from rx)
    obtain ⟨mA, O, _⟩ := ins_get I.hok ea
    obtain ⟨od, J, _⟩ := O.look
    exact PySem.W.kia_one (PySem.W.kitx_own (cl.get _) cl.hd ha hn htk hm) I.kIn J e (fun z => nomatch z) h
end
end L2

namespace L2
open PySem PySem.Spec PyProof.Rows

/-! ### room -/
structure Room (k : Nat) (A : Around) : Prop where
  hd : A.handled = none
  dp : A.depth + 3 * k + 5 < recursionLimit
  un : A.units + 16 * k + 200 < cLine
theorem Room.mono {j k : Nat} {A : Around} (r : Room k A) (h : j ≤ k) : Room j A := ⟨r.hd, by have := r.dp; omega, by have := r.un; omega⟩
theorem Room.deeper {k : Nat} {A : Around} (r : Room (k + 1) A) (env : Env) : Room k (A.deeper env) :=
  ⟨r.hd, by have := r.dp; show A.depth + 1 + 3 * k + 5 < _; omega, by have := r.un; show A.units + 3 + 16 * k + 200 < _; omega⟩
theorem make_depth {A : Around} {C : Addr} {us : List Value} {kw : List (Str × Value)} : (A.under (.builtin "type.__call__" ⟨.ref C :: us, kw⟩)).depth = A.depth + 1 := by
  first | rfl | simp [Around.under, Code.weight, Code.isCreation, Code.isGuard, Code.isCaller, Code.frames, Code.isFrame, guardIds]
theorem make_units {A : Around} {C : Addr} {us : List Value} {kw : List (Str × Value)} : (A.under (.builtin "type.__call__" ⟨.ref C :: us, kw⟩)).units = A.units + 1 := by
  first | rfl | simp [Around.under, Code.cUnits, Code.frames, Code.isFrame]
theorem Room.make {k : Nat} {A : Around} (r : Room (k + 1) A) (C : Addr) (us : List Value) (kw : List (Str × Value)) : Room k (A.under (.builtin "type.__call__" ⟨.ref C :: us, kw⟩)) :=
  ⟨r.hd, by have := r.dp; rw [make_depth]; omega, by have := r.un; rw [make_units]; omega⟩
theorem Room.depth {k : Nat} {A : Around} (r : Room k A) : A.depth < recursionLimit := by have := r.dp; omega
theorem Room.units {k : Nat} {A : Around} (r : Room k A) : A.units + 64 < cLine := by have := r.un; omega
theorem Room.units0 {k : Nat} {A : Around} (r : Room k A) : A.units < cLine := by have := r.un; omega

/-! ### argument lists and displays -/
def tNil : TA := fun _ H Q => Q [] H
def tCons (ta : TE) (tr : TA) : TA := fun σ H Q => ta σ H fun x H1 => tr σ H1 fun xs H2 => Q (x :: xs) H2
section
variable {X : Cx} {e : Expr} {es : List Expr} {te : TE} {t : TA} {pos : Pos}
theorem pa_nil : PA X [] tNil := fun _ _ _ _ H Q I h => Calls.spliced_nil ⟨[], H, I, .nil, h⟩
theorem pa_cons (ha : PE X e te) (hr : PA X es t) (hs : starEach (e :: es) X.env = (false, eval e X.env) :: starEach es X.env := by rfl) : PA X (e :: es) (tCons te t) := by
  intro pos pins s σ H Q I h
  rw [hs]
  show wpAny _ _ (spliced ((false, eval e X.env) :: backTo pos (starEach es X.env))) _ _ s
  refine Calls.spliced_cons (thn (ha pins s σ H _ I h) fun u s1 ⟨x, H1, I1, r1, q1⟩ => ?_)
  exact thn (hr pos pins s1 σ H1 _ I1 q1) fun us s2 ⟨xs, H2, I2, r2, q2⟩ => ⟨x :: xs, H2, I2, .cons r1 r2, q2⟩

/-- a tuple, a list of written items -/
def tTup (t : TA) : TE := fun σ H Q => t σ H fun xs H1 => xs.length ≤ sizeLine ∧ ∀ p, H1 p = none → Q (.ref p) (upd H1 p (.tup xs))
def tLst (t : TA) : TE := fun σ H Q => t σ H fun xs H1 => xs.length ≤ sizeLine ∧ ∀ p, H1 p = none → Q (.ref p) (upd H1 p (.lst xs))
theorem pe_tup {x1} (h : PA X es t) : PE X (.Tuple es x1 pos) (tTup t) := by
  intro pins s σ H Q I hq
  refine wpAny_Tuple_spliced (thn (h pos pins s σ H _ I hq) fun us s1 ⟨xs, H1, I1, r, z, q⟩ => ⟨by rw [← r.length]; exact z, ?_⟩)
  have hf : H1 s1.heap.objs.size = none := I1.hok.fresh (Nat.le_refl _)
  refine ⟨.ref s1.heap.objs.size, upd H1 s1.heap.objs.size (.tup xs), I1.laid (t' := s1.toks) (fun b u e => Heap.get?_push_of_some _ e) (Nat.le_refl _) ?_, rfl, q _ hf⟩
  exact ⟨z, us, r, ⟨_, Heap.get?_push_size _ rfl, rfl, _, rfl⟩⟩
theorem pe_lst (h : PA X es t) : PE X (.List es pos) (tLst t) := by
  intro pins s σ H Q I hq
  refine wpAny_List_spliced (thn (h pos pins s σ H _ I hq) fun us s1 ⟨xs, H1, I1, r, z, q⟩ => ⟨by rw [← r.length]; exact z, ?_⟩)
  have hf : H1 s1.heap.objs.size = none := I1.hok.fresh (Nat.le_refl _)
  refine ⟨.ref s1.heap.objs.size, upd H1 s1.heap.objs.size (.lst xs), I1.laid (t' := s1.toks) (fun b u e => Heap.get?_push_of_some _ e) (Nat.le_refl _) ?_, rfl, q _ hf⟩
  exact ⟨z, us, 0, r, Heap.get?_push_size _ rfl⟩
end

/-! ### what a def promises -/
/-- a def's promise: the bound arguments in the parameters' order, the heap, the wanted end, the wanted exception -/
abbrev Sp := List V → Hp → VK → XK → Prop
/-- how an exception lies behind a call (file 08 gives it): the callers' frames, abstract heap and state ahead of the call, the wish, the exception, the state -/
abbrev CXT := List Env → Hp → Shared → XK → Value → Shared → Prop

/-- the state at a call -/
structure Env0 (P : Program) (w : World) (K : PySem.W.Frag) (mg : Str → Option Value) (base : Heap) (A : Around) (outer : List Env) (s : Shared) (H : Hp) : Prop where
  frames : A.frames = some outer
  mod : Mod K mg base
  bs : ∀ b o, base.get? b = some o → s.heap.get? b = some o ∧ H b = none
  bsz : base.objs.size ≤ s.heap.objs.size
  funs : s.heap.FunFrames base outer
  frf : ∀ b ∈ frs outer, H b = none
  hok : HOk P w H s.heap
  bare : AllBare s.gens
/-- a call's end -/
def CE (outer : List Env) (P : Program) (w : World) (H : Hp) (s : Shared) (Q : VK) (u : Value) (s' : Shared) : Prop :=
  ∃ v H', s'.os = s.os ∧ AllBare s'.gens ∧ Un (frs outer) [] H H' s.heap s'.heap ∧ HOk P w H' s'.heap ∧ RelV v u ∧ Q v H'
def CR (CX : CXT) (outer : List Env) (P : Program) (w : World) (H : Hp) (s : Shared) (Q : VK) (E : XK) (r : Result) (s' : Shared) : Prop :=
  match r with
  | .ok (.ret u) => CE outer P w H s Q u s'
  | .ok _ => False
  | .error e => CX outer H s E e s'
structure FnOk (P : Program) (w : World) (K : PySem.W.Frag) (mg : Str → Option Value) (base : Heap) (CX : CXT) (k : Nat) (f : Addr) (fd : FuncData) (ps : List Str) (sp : Sp) : Prop where
  len : ∀ vs H Q E, sp vs H Q E → vs.length = ps.length
  run : ∀ (A : Around) (outer : List Env) (s : Shared) (H : Hp) (args : Args) (us : List Value) (vs : List V) (Q : VK) (E : XK), Room k A → Env0 P w K mg base A outer s H → BindsTo s fd args (ps.zip us) → Vals vs us → sp vs H Q E →
    codeAny (model P w) A (.call (.ref f) args) (CR CX outer P w H s Q E) s
theorem FnOk.mono {P : Program} {w : World} {K : PySem.W.Frag} {mg : Str → Option Value} {base : Heap} {CX : CXT} {j k : Nat} {f : Addr} {fd : FuncData} {ps : List Str} {sp : Sp} (F : FnOk P w K mg base CX j f fd ps sp) (h : j ≤ k) :
    FnOk P w K mg base CX k f fd ps sp := ⟨F.len, fun A outer s H args us vs Q E hr => F.run A outer s H args us vs Q E (hr.mono h)⟩

theorem Env0.make {P : Program} {w : World} {K : PySem.W.Frag} {mg : Str → Option Value} {base : Heap} {A : Around} {outer : List Env} {s : Shared} {H : Hp} (e : Env0 P w K mg base A outer s H) (C : Addr) (us : List Value) (kw : List (Str × Value)) :
    Env0 P w K mg base (A.under (.builtin "type.__call__" ⟨.ref C :: us, kw⟩)) outer s H := ⟨by first | exact e.frames | (simpa [Around.under, Code.envs, Code.isFrame, pushEnvs] using e.frames), e.mod, e.bs, e.bsz, e.funs, e.frf, e.hok, e.bare⟩

section
variable {X : Cx} {pins : List (Addr × Obj)} {σ : St} {H : Hp} {s s' : Shared}
/-- from a body: what a callee wants -/
theorem Inv.env0 (I : Inv X pins σ H s) : Env0 X.prog X.w X.K X.mg X.base X.A X.stack s H :=
  ⟨I.ok.frames, I.ok.mod, I.bs, Nat.le_trans I.ok.bsz I.sz, I.stack, I.stkFree, I.hok, I.bare⟩
/-- behind a call -/
theorem Inv.after {Q : VK} {u : Value} (I : Inv X pins σ H s) (h : CE X.stack X.prog X.w H s Q u s') : EP X pins σ Q u s' := by
  obtain ⟨v, H', os, bare, un, hok, r, q⟩ := h
  obtain ⟨hh, g, d, t, os'⟩ := s'
  obtain rfl : os' = s.os := os
  exact ⟨v, H', I.call (h' := hh) (g' := g) (d' := d) (t' := t) (ch := []) un hok bare (fun b z => absurd z (by simp)), r, q⟩
end

/-! ### calls -/
/-- f(..): the written arguments, then the defaults dvs; E: what is wanted of an exception -/
def tCall (sp : Sp) (dvs : List V) (E : XK) (t : TA) : TE := fun σ H Q => t σ H fun vs H1 => sp (vs ++ dvs) H1 Q E
/-- o.m(..) of an instance of the class at C -/
def tMeth (C : Addr) (m : Str) (sp : Sp) (dvs : List V) (E : XK) (ta : TE) (t : TA) : TE := fun σ H Q => ta σ H fun x H1 => ∃ a dx fs, x = .ref a ∧ H1 a = some (.ins C dx fs) ∧ fs.lookup m = none ∧
  t σ H1 fun vs H2 => sp (x :: (vs ++ dvs)) H2 Q E
/-- C(..): a new instance and its dict, then __init__ -/
def tMake (C : Addr) (sp : Sp) (dvs : List V) (E : XK) (t : TA) : TE := fun σ H Q => t σ H fun vs H1 => ∀ x dx, H1 x = none → H1 dx = none → dx ≠ x →
  sp (.ref x :: (vs ++ dvs)) (upd (upd H1 dx (.own x)) x (.ins C dx [])) (fun v H2 => v = .non ∧ Q (.ref x) H2) E

/-- how the parameters are bound: us the positional arguments, kw the keywords' values by name, ds the defaults that fill up -/
def Binds (K : PySem.W.Frag) (fd : FuncData) (ps : List Str) (ds : List Value) : Prop :=
  ∀ (s : Shared) (us : List Value), K.In s.heap → (us ++ ds).length = ps.length → BindsTo s fd ⟨us, []⟩ (ps.zip (us ++ ds))
/-- every parameter is given -/
theorem Binds.all {K : PySem.W.Frag} {fd : FuncData} {ps : List Str} (h : ∀ us : List Value, us.length = ps.length → bindArgs fd ⟨us, []⟩ = pure (ps.zip us)) : Binds K fd ps [] := fun s us _ hl => by
  rw [List.append_nil] at hl ⊢
  exact .of_eq (h us hl)

/-- an exception of a callee reaches what this body wants of exceptions -/
def Passes (CX : CXT) (X : Cx) (E : XK) : Prop := ∀ (pins : List (Addr × Obj)) (σ : St) (H : Hp) (s : Shared) (e : Value) (s' : Shared), Inv X pins σ H s → CX X.stack H s E e s' → X.xe e s'

section
variable {X : Cx} {CX : CXT} {k : Nat} {f C : Addr} {fd : FuncData} {ps : List Str} {sp : Sp} {dvs : List V} {ds : List Value} {E : XK} {x m : Str} {p pos apos : Pos} {e o : Expr} {es : List Expr} {ta : TE} {t : TA}

/-- the callee runs -/
theorem run_fn {pins : List (Addr × Obj)} {σ : St} {H : Hp} {s : Shared} {Q : VK} {us : List Value} {vs : List V} (F : FnOk X.prog X.w X.K X.mg X.base CX k f fd ps sp) (hr : Room k X.A) (hb : Binds X.K fd ps ds) (hd : Vals dvs ds) (hx : Passes CX X E)
    (I : Inv X pins σ H s) (r : Vals vs us) (h : sp (vs ++ dvs) H Q E) : wpAny (model X.prog X.w) X.A (call (.ref f) us) (EP X pins σ Q) X.xe s := by
  have r2 : Vals (vs ++ dvs) (us ++ ds) := r.append hd
  have hl : (us ++ ds).length = ps.length := by rw [← r2.length]; exact F.len _ _ _ _ h
  refine wpAny_call (codeAny_mono (F.run X.A X.stack s H ⟨us, []⟩ (us ++ ds) (vs ++ dvs) Q E hr I.env0 (hb s us I.kIn hl) r2 h) fun r s' hq => ?_)
  cases r with
  | error e => exact hx pins σ H s e s' I hq
  | ok fl =>
    cases fl with
    | ret u => exact I.after hq
    | next => exact False.elim hq
    | brk => exact False.elim hq
    | cont => exact False.elim hq

theorem pe_call (F : FnOk X.prog X.w X.K X.mg X.base CX k f fd ps sp) (hr : Room k X.A) (hg : Gl X x) (hm : X.mg x = some (.ref f)) (hk : PySem.W.keepIn X.K (.ref f) = true) (hb : Binds X.K fd ps ds) (hd : Vals dvs ds) (hx : Passes CX X E)
    (ha : PA X (e :: es) t) (hdb : (x == ("__debug__" : Str)) = false := by decide) (he : starEach (e :: es) X.env = (false, eval e X.env) :: starEach es X.env := by rfl) (hpl : (backTo pos (starEach es X.env)).any (·.1) = false := by rfl) :
    PE X (.Call (.Name x p) (e :: es) [] pos) (tCall sp dvs E t) := by
  intro pins s σ H Q I h
  refine wpAny_Call_Name_kw (ld_glob I hg hm ?_ hdb)
  refine PySem.W.callWith_K (h₀ := X.base) I.ok.mod.kin hk (thn (ha pos pins s σ H _ I h) fun us s1 ⟨vs, H1, I1, r, q⟩ => ⟨I1.kIn, ?_⟩) he hpl
  exact run_fn F hr hb hd hx I1 r q

/-- o.m(e, ..) -/
theorem pe_meth {pl : Sem Bool} (he : PE X o ta) (c : Cls X.K C) (hm : Meth X.K C m f) (F : FnOk X.prog X.w X.K X.mg X.base CX k f fd ps sp) (hr : Room k X.A) (hb : Binds X.K fd ps ds) (hd : Vals dvs ds) (hx : Passes CX X E) (ha : PA X (e :: es) t)
    (hst : starEach (e :: es) X.env = (false, eval e X.env) :: starEach es X.env := by rfl) (hpl : (backTo pos (starEach es X.env)).any (·.1) = false := by rfl)
    (ht : eval (.Call (.Attribute o m apos) (e :: es) [] pos) X.env = (do
      let ov ← eval o X.env
      standAt apos.atName
      let (f, first) ← holding [ov] (getMethod ov m pl)
      callWith pos f first (backTo pos (starEach (e :: es) X.env)) (backToKw pos (keywordEach [] X.env))) := by rfl) :
    PE X (.Call (.Attribute o m apos) (e :: es) [] pos) (tMeth C m sp dvs E ta t) := by
  intro pins s σ H Q I h
  refine PySem.W.methodCall_KW (pl := pl) (thn (he pins s σ H _ I h) fun u s1 ⟨x, H1, I1, rx, a, dx, fs, ex, ea, l, q⟩ => ?_) ht
  subst ex
  obtain rfl : u = Value.ref a := rx
  refine getmeth_ok I1 ea c hm l ?_
  refine PySem.W.callWith_K (first := [.ref a]) (h₀ := X.base) I.ok.mod.kin hm.kp (thn (ha pos pins s1 σ H1 _ I1 q) fun us s2 ⟨vs, H2, I2, r, q2⟩ => ⟨I2.kIn, ?_⟩) hst hpl
  exact run_fn (us := .ref a :: us) (vs := .ref a :: vs) F hr hb hd hx I2 (.cons rfl r) q2
/-- o.m() -/
theorem pe_meth0 {pl : Sem Bool} (he : PE X o ta) (c : Cls X.K C) (hm : Meth X.K C m f) (F : FnOk X.prog X.w X.K X.mg X.base CX k f fd ps sp) (hr : Room k X.A) (hb : Binds X.K fd ps ds) (hd : Vals dvs ds) (hx : Passes CX X E)
    (ht : eval (.Call (.Attribute o m apos) [] [] pos) X.env = (do
      let ov ← eval o X.env
      standAt apos.atName
      let (f, first) ← holding [ov] (getMethod ov m pl)
      callWith pos f first (backTo pos (starEach [] X.env)) (backToKw pos (keywordEach [] X.env))) := by rfl) :
    PE X (.Call (.Attribute o m apos) [] [] pos) (tMeth C m sp dvs E ta tNil) := by
  intro pins s σ H Q I h
  refine PySem.W.methodCall_KW (pl := pl) (thn (he pins s σ H _ I h) fun u s1 ⟨x, H1, I1, rx, a, dx, fs, ex, ea, l, q⟩ => ?_) ht
  subst ex
  obtain rfl : u = Value.ref a := rx
  refine getmeth_ok I1 ea c hm l ?_
  exact PySem.W.callWith_K0 (first := [.ref a]) I1.kIn hm.kp (run_fn (us := [.ref a]) (vs := [.ref a]) F hr hb hd hx I1 (.cons rfl .nil) q)

/-- what a class must have to be made -/
structure Mk (K : PySem.W.Frag) (C f : Addr) : Prop where
  makes : PySem.W.makesIn K C = true
  init : PySem.W.findIn K (.ref C) "__init__" = some (some (.ref f))
  fn : PySem.W.isFn K (.ref f) = true
  kp : PySem.W.keepIn K (.ref C) = true

theorem run_make {pins : List (Addr × Obj)} {σ : St} {H : Hp} {s : Shared} {Q : VK} {us : List Value} {vs : List V} (M : Mk X.K C f) (F : FnOk X.prog X.w X.K X.mg X.base CX k f fd ps sp) (hr : Room (k + 1) X.A) (hb : Binds X.K fd ps ds) (hd : Vals dvs ds)
    (hx : Passes CX X E) (I : Inv X pins σ H s) (r : Vals vs us)
    (h : ∀ x dx, H x = none → H dx = none → dx ≠ x → sp (.ref x :: (vs ++ dvs)) (upd (upd H dx (.own x)) x (.ins C dx [])) (fun v H2 => v = .non ∧ Q (.ref x) H2) E) :
    wpAny (model X.prog X.w) X.A (call (.ref C) us) (EP X pins σ Q) X.xe s := by
  have hq := h (s.heap.objs.size + 1) s.heap.objs.size (I.hok.fresh (Nat.le_succ _)) (I.hok.fresh (Nat.le_refl _)) (Nat.ne_of_lt (Nat.lt_succ_self _))
  have I2 := Inv.made (C := C) I
  have r2 : Vals (V.ref (s.heap.objs.size + 1) :: (vs ++ dvs)) (Value.ref (s.heap.objs.size + 1) :: (us ++ ds)) := .cons rfl (r.append hd)
  have hl : (Value.ref (s.heap.objs.size + 1) :: us ++ ds).length = ps.length := by
    have e := r2.length
    rw [F.len _ _ _ _ hq] at e
    exact e.symm
  refine wpAny_call (make_map (f := f) I.kIn M.makes M.init (beq_iff_eq.mp M.fn) (codeAny_mono (F.run _ X.stack _ _ ⟨Value.ref (s.heap.objs.size + 1) :: us, []⟩ (Value.ref (s.heap.objs.size + 1) :: (us ++ ds)) _ _ E (hr.make C us [])
    (I2.env0.make C us []) (hb _ (Value.ref (s.heap.objs.size + 1) :: us) I2.kIn hl) r2 hq) fun r s' hq' => ?_))
  cases r with
  | error e => exact hx pins σ _ _ e s' I2 hq'
  | ok fl =>
    cases fl with
    | ret u =>
      obtain ⟨v, H', I3, rv, ev, q3⟩ := I2.after hq'
      subst ev
      exact ⟨rv, ⟨V.ref (s.heap.objs.size + 1), H', I3, rfl, q3⟩⟩
    | next => exact False.elim hq'
    | brk => exact False.elim hq'
    | cont => exact False.elim hq'
theorem pe_make (M : Mk X.K C f) (F : FnOk X.prog X.w X.K X.mg X.base CX k f fd ps sp) (hr : Room (k + 1) X.A) (hg : Gl X x) (hm : X.mg x = some (.ref C)) (hb : Binds X.K fd ps ds) (hd : Vals dvs ds) (hx : Passes CX X E)
    (ha : PA X (e :: es) t) (hdb : (x == ("__debug__" : Str)) = false := by decide) (he : starEach (e :: es) X.env = (false, eval e X.env) :: starEach es X.env := by rfl) (hpl : (backTo pos (starEach es X.env)).any (·.1) = false := by rfl) :
    PE X (.Call (.Name x p) (e :: es) [] pos) (tMake C sp dvs E t) := by
  intro pins s σ H Q I h
  refine wpAny_Call_Name_kw (ld_glob I hg hm ?_ hdb)
  refine PySem.W.callWith_K (h₀ := X.base) I.ok.mod.kin M.kp (thn (ha pos pins s σ H _ I h) fun us s1 ⟨vs, H1, I1, r, q⟩ => ⟨I1.kIn, ?_⟩) he hpl
  exact run_make M F hr hb hd hx I1 r q
end

/-! ### keywords -/
section
variable {X : Cx} {CX : CXT} {k : Nat} {f C : Addr} {fd : FuncData} {ps ks : List Str} {sp : Sp} {E : XK} {x m : Str} {p pos apos kpos : Pos} {e o : Expr} {es : List Expr} {kws : List Keyword} {te ta : TE} {t tk : TA} {nm : Option Str}

/-- how a call with keywords binds: g puts the positional values us and the keywords' values ws (names ks) in the parameters' order, defaults among them -/
structure KBinds (K : PySem.W.Frag) (fd : FuncData) (ps ks : List Str) (g : List Value → List Value → List Value) (gV : List V → List V → List V) : Prop where
  to : ∀ (s : Shared) (us ws : List Value), K.In s.heap → (g us ws).length = ps.length → BindsTo s fd ⟨us, ks.zip ws⟩ (ps.zip (g us ws))
  rel : ∀ {vs : List V} {us : List Value} {zs : List V} {ws : List Value}, Vals vs us → Vals zs ws → Vals (gV vs zs) (g us ws)
variable {g : List Value → List Value → List Value} {gV : List V → List V → List V}
end

/-! ### a def's body keeps its promise -/
/-- names: the parameters first -/
structure FnScope (N P : List Str) (sc : Scope) : Prop where
  kind : sc.kind = .function
  co : sc.isCoroutine = false
  gen : sc.isGenerator = false
  nd : N.Nodup
  pre : N.take P.length = P
  par : ∀ x ∈ P, sc.names.lookup x = some .local ∨ sc.names.lookup x = some .cell
  nofree : ∀ y ∈ sc.names, y.2 ≠ .free

theorem bindL_out {kindOf : Str → Option NameKind} {x : Str} : ∀ {binds : List (Str × Value)} {m : Str → Option Value}, (∀ v, (x, v) ∉ binds) → bindL kindOf binds m x = m x
  | [], _, _ => rfl
  | (n, v) :: r, m, h => by
    unfold bindL
    rw [bindL_out fun w hw => h w (List.mem_cons_of_mem _ hw)]
    split
    · have : x ≠ n := by rintro rfl; exact h v List.mem_cons_self
      simp [this]
    · rfl
theorem bindC_out {kindOf : Str → Option NameKind} {x : Str} : ∀ {binds : List (Str × Value)} {m : Str → Option Value}, (∀ v, (x, v) ∉ binds) → bindC kindOf binds m x = m x
  | [], _, _ => rfl
  | (n, v) :: r, m, h => by
    unfold bindC
    rw [bindC_out fun w hw => h w (List.mem_cons_of_mem _ hw)]
    split
    · rfl
    · have : x ≠ n := by rintro rfl; exact h v List.mem_cons_self
      simp [this]
theorem bindL_get {kindOf : Str → Option NameKind} {x : Str} {v : Value} : ∀ {P : List Str} {vs : List Value} {i : Nat} {m : Str → Option Value}, P.Nodup → P[i]? = some x → vs[i]? = some v → kindOf x = some .local →
    bindL kindOf (P.zip vs) m x = some v
  | [], _, _, _, _, h, _, _ => by simp at h
  | _ :: _, [], _, _, _, _, h, _ => by simp at h
  | p :: P, w :: vs, 0, m, nd, h1, h2, hk => by
    simp at h1 h2; subst h1; subst h2
    show bindL kindOf ((p, w) :: P.zip vs) m p = _
    unfold bindL
    rw [bindL_out fun v hv => (List.nodup_cons.mp nd).1 (List.of_mem_zip hv).1, if_pos hk]
    simp
  | p :: P, w :: vs, i + 1, m, nd, h1, h2, hk => by
    show bindL kindOf ((p, w) :: P.zip vs) m x = _
    unfold bindL
    exact bindL_get (i := i) (List.nodup_cons.mp nd).2 (by simpa using h1) (by simpa using h2) hk
theorem bindC_get {kindOf : Str → Option NameKind} {x : Str} {v : Value} : ∀ {P : List Str} {vs : List Value} {i : Nat} {m : Str → Option Value}, P.Nodup → P[i]? = some x → vs[i]? = some v → kindOf x ≠ some .local →
    bindC kindOf (P.zip vs) m x = some v
  | [], _, _, _, _, h, _, _ => by simp at h
  | _ :: _, [], _, _, _, _, h, _ => by simp at h
  | p :: P, w :: vs, 0, m, nd, h1, h2, hk => by
    simp at h1 h2; subst h1; subst h2
    show bindC kindOf ((p, w) :: P.zip vs) m p = _
    unfold bindC
    rw [bindC_out fun v hv => (List.nodup_cons.mp nd).1 (List.of_mem_zip hv).1, if_neg hk]
    simp
  | p :: P, w :: vs, i + 1, m, nd, h1, h2, hk => by
    show bindC kindOf ((p, w) :: P.zip vs) m x = _
    unfold bindC
    exact bindC_get (i := i) (List.nodup_cons.mp nd).2 (by simpa using h1) (by simpa using h2) hk

/-- the names' values at the entry -/
def start (N : List Str) (vs : List V) : St := vs.map some ++ List.replicate (N.length - vs.length) none

/-- the context of a def's body, at its entry; an exception leaves the frame, then lies as CX says -/
def cxOf (CX : CXT) (P : Program) (w : World) (K : PySem.W.Frag) (mg : Str → Option Value) (base : Heap) (N : List Str) (qual : Str) (scope : Scope) (f : Addr) (cd : Value) (A : Around) (outer : List Env) (s : Shared) (H : Hp) (E : XK) : Cx where
  prog := P
  w := w
  K := K
  mg := mg
  base := base
  A := A.deeper (envOfC qual scope s.heap.objs.size f cd)
  N := N
  s₀ := s
  H₀ := H
  env := envOfC qual scope s.heap.objs.size f cd
  outer := outer
  stack := envOfC qual scope s.heap.objs.size f cd :: outer
  ex := []
  calm := true
  fn := fun _ => true
  pn := []
  xe := fun e s' => wpAny (model P w) (A.deeper (envOfC qual scope s.heap.objs.size f cd)) (leaving (envOfC qual scope s.heap.objs.size f cd) e) (fun _ s'' => CX outer H s E e s'') (fun e' s'' => CX outer H s E e' s'') s'

theorem cell_has {sc : Scope} {n : Nat} {x : Str} (h : sc.names.lookup x = some .cell) : ∃ c, (cellsFrom n sc.names []).lookup x = some c := by
  have q := PySem.W.cellsFrom_some sc.names n [] (.inl h)
  exact Option.isSome_iff_exists.mp q

theorem inv_start {CX : CXT} {P : Program} {w : World} {K : PySem.W.Frag} {mg : Str → Option Value} {base : Heap} {N ps : List Str} {qual : Str} {scope : Scope} {f : Addr} {cd : Value} {A : Around} {outer : List Env} {s s1 : Shared} {H : Hp} {E : XK} {us : List Value} {vs : List V}
    (S : FnScope N ps scope) (hd : A.handled = none) (e0 : Env0 P w K mg base A outer s H) (hl : vs.length = ps.length) (r : Vals vs us)
    (x : InCallC s s.heap.objs.size (bindL (envOfC qual scope s.heap.objs.size f cd).kindOf (ps.zip us) fun _ => none) (cellsFrom (s.heap.objs.size + 1) scope.names []) (bindC (envOfC qual scope s.heap.objs.size f cd).kindOf (ps.zip us) fun _ => none) s1) :
    Inv (cxOf CX P w K mg base N qual scope f cd A outer s H E) [] (start N vs) H s1 := by
  have hpl : ps.length ≤ N.length := by have := congrArg List.length S.pre; rw [List.length_take] at this; omega
  obtain ⟨h1, tk, rfl, hk⟩ := x.done
  have noA : ∀ b : Addr, b ∉ (cxOf CX P w K mg base N qual scope f cd A outer s H E).ex := fun b z => absurd (show b ∈ ([] : List Addr) from z) (by simp)
  refine ⟨⟨e0.mod, S.kind, rfl, rfl, Nat.le_refl _, fun y z c h1 h2 => ?_, fun y hy => ?_, fun y c _ h => ?_, fun _ => hd, Around.frames_deeper e0.frames, .inr ⟨rfl, rfl⟩, fun b z => absurd z (noA b), e0.bs, e0.bsz, fun b _ _ => noA b, fun b z => absurd z (noA b), e0.funs, e0.frf⟩,
    rfl, e0.bare, Un.kept hk, ⟨_, x.toInCall.ns, fun i y v h1 h2 h3 => ?_⟩, fun y c h => ⟨_, x.cell y c h⟩, e0.hok.fresh (Nat.le_refl _), fun y c h => ?_, fun p hp => absurd (show p ∈ ([] : List (Addr × Obj)) from hp) (by simp), e0.hok.kept hk, ?_⟩
  · exact name_of_addr x.apart (PySem.mem_of_lookup h1) (PySem.mem_of_lookup h2)
  · have hy : scope.names.lookup y = some .cell ∨ scope.names.lookup y = some .free := hy
    rcases hy with hy | hy
    · exact cell_has hy
    · exact absurd rfl (S.nofree _ (PySem.mem_of_lookup hy))
  · exact Nat.le_of_lt (x.above y c (PySem.mem_of_lookup h))
  · have hi : i < vs.length := by
      unfold start at h2
      by_cases hi : i < vs.length
      · exact hi
      · rw [List.getElem?_append_right (by simpa using hi)] at h2
        rw [List.getElem?_replicate] at h2
        split at h2 <;> cases h2
    have ha : vs[i]? = some v := by
      unfold start at h2
      rw [List.getElem?_append_left (by simpa using hi), List.getElem?_map] at h2
      cases e : vs[i]? with
      | none => rw [e] at h2; cases h2
      | some a => rw [e] at h2; cases h2; rfl
    obtain ⟨u, hu, rv⟩ := r.get ha
    have hp : ps[i]? = some y := by
      rw [← S.pre, List.getElem?_take_of_lt (by omega)]; exact h1
    have ndP : ps.Nodup := by rw [← S.pre]; exact S.nd.sublist (List.take_sublist _ _)
    refine ⟨u, rv, ?_⟩
    rcases S.par y (List.mem_of_getElem? hp) with k | k
    · exact .inl ⟨k, bindL_get ndP hp hu k⟩
    · obtain ⟨c, e⟩ := cell_has (n := s.heap.objs.size + 1) k
      refine .inr ⟨.inl k, c, e, ?_⟩
      have q := x.cell y c e
      rw [bindC_get ndP hp hu (by show scope.names.lookup y ≠ _; rw [k]; decide)] at q
      exact q
  · exact e0.hok.fresh (Nat.le_of_lt (x.above y c (PySem.mem_of_lookup h)))
  · unfold start
    show _ = N.length
    rw [List.length_append, List.length_map, List.length_replicate]
    omega

/-- THE RULE: a def (or a method) of the text, by its body. The body's reading t is chosen for each entry; it is run at the parameters' values -/
theorem fn_of {CX : CXT} {P : Program} {w : World} {K : PySem.W.Frag} {mg : Str → Option Value} {base : Heap} {k : Nat} {f : Addr} {name qual : Str} {params : Arguments} {body : List Stmt} {scope : Scope} {dV kV doc pm cdv ct oc : Value} {an od : Option Addr}
    {osl : Array (Option Value)} {N ps : List Str} {sp : Sp} (lk : K.lookup f = some ⟨oc, od, .func (PySem.W.fnOf name qual params body scope dV kV doc pm an cdv ct), osl⟩) (hcd : PySem.W.codeIn K cdv qual = true) (S : FnScope N ps scope)
    (len : ∀ vs H Q E, sp vs H Q E → vs.length = ps.length)
    (hbody : ∀ (A : Around) (outer : List Env) (s : Shared) (H : Hp) (vs : List V) (Q : VK) (E : XK), Room k (A.deeper (envOfC qual scope s.heap.objs.size f cdv)) → sp vs H Q E →
      ∃ t, PSs (cxOf CX P w K mg base N qual scope f cdv A outer s H E) body t ∧ t { nx := fun _ H' => Q .non H', rt := Q } (start N vs) H) :
    FnOk P w K mg base CX (k + 1) f (PySem.W.fnOf name qual params body scope dV kV doc pm an cdv ct) ps sp := by
  refine ⟨len, fun A outer s H args us vs Q E hr e0 hb r hsp => ?_⟩
  have hl := len _ _ _ _ hsp
  have KX : K.In s.heap := e0.mod.kin.keeps fun b o e => (e0.bs b o e).1
  have lim : s.heap.NoLimit := e0.mod.nolimit.keeps fun b o e => (e0.bs b o e).1
  have hkind : ∀ y ∈ ps.zip us, scope.names.lookup y.1 = some .local ∨ (scope.names.lookup y.1 = some .cell ∧ ((cellsFrom (s.heap.objs.size + 1) scope.names []).lookup y.1).isSome = true) := fun ⟨n, v⟩ hy => by
    rcases S.par n (List.of_mem_zip hy).1 with q | q
    · exact .inl q
    · exact .inr ⟨q, PySem.W.cellsFrom_some _ _ _ (.inl q)⟩
  refine codeAny_call_function hr.depth (KX _ _ lk) rfl S.co S.gen rfl (PySem.W.codeRec_of KX hcd) (hb _ _ _ _ ?_)
  refine wpAny_newFunctionEnv_cells S.kind hkind fun env he s1 x => ?_
  subst he
  refine ⟨lim.keeps x.toInCall.keep, codeAny_func ?_⟩
  obtain ⟨t, ht, hq⟩ := hbody A outer s H vs Q E (hr.deeper _) hsp
  have I : Inv (cxOf CX P w K mg base N qual scope f cdv A outer s H E) [] (start N vs) H s1 := inv_start S hr.hd e0 hl r x
  refine wpAny_mono (ht [] s1 (start N vs) H _ I hq) (fun fl s' hs => ?_) fun e s' hs => hs
  have fin : ∀ {σ' : St} {H' : Hp} {v : V} {u : Value}, Inv (cxOf CX P w K mg base N qual scope f cdv A outer s H E) [] σ' H' s' → RelV v u → Q v H' → CE outer P w H s Q u s' :=
    fun {σ' H' v u} J rv q => ⟨v, H', J.os, J.bare, J.base, J.hok, rv, q⟩
  cases fl with
  | ret u =>
    obtain ⟨v, σ', H', J, rv, q⟩ := hs
    exact fin J rv q
  | next =>
    obtain ⟨σ', H', J, q⟩ := hs
    exact fin (v := V.non) (u := Value.none) J rfl q
  | brk =>
    obtain ⟨_, _, _, q⟩ := hs
    exact False.elim q
  | cont =>
    obtain ⟨_, _, _, q⟩ := hs
    exact False.elim q
end L2

namespace L2
open PySem PySem.Spec PyProof.Rows
section
variable {X : Cx} {x : Str} {p pos : Pos} {e : Expr} {es : List Expr} {t : TA} {id T : String} {r : List V → Hp → VK → Prop}

def tCB (r : List V → Hp → VK → Prop) (t : TA) : TE := fun σ H Q => t σ H fun vs H1 => r vs H1 Q
/-- f(e, ..), f a built-in function -/
theorem pe_callB (hc : CallR X (.builtin id) r) (hg : Gl X x) (hm : X.mg x = none) (hv : bootBuiltins x = some (.builtin id)) (ha : PA X (e :: es) t) (hn : x ≠ "__name__" := by decide) (hdb : (x == ("__debug__" : Str)) = false := by decide)
    (he : starEach (e :: es) X.env = (false, eval e X.env) :: starEach es X.env := by rfl) (hpl : (backTo pos (starEach es X.env)).any (·.1) = false := by rfl) : PE X (.Call (.Name x p) (e :: es) [] pos) (tCB r t) := by
  intro pins s σ H Q I h
  refine wpAny_Call_Name_kw (ld_blt I hg hm hv ?_ hn hdb)
  exact PyProof.Rows.callWith_builtin1 (thn (ha pos pins s σ H _ I h) fun us s1 ⟨vs, H1, I1, r1, q1⟩ => hc pins s1 σ H1 vs us Q I1 r1 q1) he hpl
/-- T(e, ..), T a built-in type -/
theorem pe_callTy (hc : CallR X (.type T) r) (hg : Gl X x) (hm : X.mg x = none) (hv : bootBuiltins x = some (.type T)) (ha : PA X (e :: es) t) (hn : x ≠ "__name__" := by decide) (hdb : (x == ("__debug__" : Str)) = false := by decide)
    (he : starEach (e :: es) X.env = (false, eval e X.env) :: starEach es X.env := by rfl) (hpl : (backTo pos (starEach es X.env)).any (·.1) = false := by rfl) : PE X (.Call (.Name x p) (e :: es) [] pos) (tCB r t) := by
  intro pins s σ H Q I h
  refine wpAny_Call_Name_kw (ld_blt I hg hm hv ?_ hn hdb)
  exact PyProof.Rows.callWith_type1 (thn (ha pos pins s σ H _ I h) fun us s1 ⟨vs, H1, I1, r1, q1⟩ => hc pins s1 σ H1 vs us Q I1 r1 q1) he hpl
end
end L2

namespace HT
open PySem PyProof.Rows

/-- t < u of tuples of ints -/
def lexLt : List Int → List Int → Bool
  | [], [] => false
  | [], _ :: _ => true
  | _ :: _, [] => false
  | x :: xs, y :: ys => if x = y then lexLt xs ys else decide (x < y)
theorem lexLt_cons (x y : Int) (xs ys : List Int) : lexLt (x :: xs) (y :: ys) = if x = y then lexLt xs ys else decide (x < y) := rfl


section
open PySem.SeqAt
open PySem.AutoSeq1 (wpAny_loadPart')
open PySem.MeetsSeq PySem.MeetsSeq2 PySem.MeetsSeq3

end

section
variable {prog : Program} {w : World} {A : Around} {E : Value → Shared → Prop} {s : Shared}


/-- t + u, t not empty -/
theorem cat_tup {t b : Addr} {vs ws : List Value} {Q : Value → Shared → Prop} (ht : IsTup s.heap t vs.toArray) (hb : IsTup s.heap b ws.toArray) (hv : vs ≠ [])
    (h1 : ws = [] → Q (.ref t) s) (h2 : ws ≠ [] → Q (.ref s.heap.objs.size) { s with heap := s.heap.push { cls := .type "tuple", data := .seq (vs ++ ws).toArray } })
    (hsz : vs.length + ws.length ≤ sizeLine) : wpAny (model prog w) A (binaryOp .Add (.ref t) (.ref b)) Q E s := by
  obtain ⟨⟨cls, dd, data, sl⟩, ho, hc, n, hd⟩ := id ht
  obtain ⟨⟨cls2, dd2, data2, sl2⟩, ho2, hc2, n2, hd2⟩ := id hb
  simp only at hc hd hc2 hd2
  subst hc hd hc2 hd2
  have e : vs.toArray ++ ws.toArray = (vs ++ ws).toArray := by simp
  by_cases hw : ws = []
  · exact concat_meets ⟨_, ho, rfl⟩ ⟨_, ho2, rfl⟩ noFill_tuple_add seq_tuple_add PySem.F.slot_tuple_add PySem.F.entry_tuple_add (PySem.F.args_tuple_add_2 _ _)
      (tuple_addW1 t b vs.toArray ws.toArray n n2 dd dd2 sl sl2 (by simpa using hv) (by simp [hw])) ⟨ho, ho2, h1 hw⟩
  · refine concat_meets ⟨_, ho, rfl⟩ ⟨_, ho2, rfl⟩ noFill_tuple_add seq_tuple_add PySem.F.slot_tuple_add PySem.F.entry_tuple_add (PySem.F.args_tuple_add_2 _ _)
      (tuple_addW2 t b vs.toArray ws.toArray n n2 dd dd2 sl sl2 (by simpa using hv) (by simpa using hw) (by rw [List.size_toArray, List.size_toArray]; exact hsz)) ⟨ho, ho2, ?_⟩
    rw [e]
    exact h2 hw

/-! ### t[a:b], not the whole -/
/-- a slice's bound as a place among n (d where it is left out) -/
def sIx (n d : Nat) : Option Int → Nat
  | none => d
  | some v => if v < 0 then (v + (n : Int)).toNat else min v.toNat n
theorem sIx_none (n d : Nat) : sIx n d none = d := rfl
theorem sIx_nat (n d k : Nat) : sIx n d (some (k : Int)) = min k n := by
  show (if (k : Int) < 0 then ((k : Int) + (n : Int)).toNat else min (k : Int).toNat n) = min k n
  rw [if_neg (by omega), Int.toNat_natCast]
theorem sIx_le (n d : Nat) (hd : d ≤ n) (o : Option Int) : sIx n d o ≤ n := by
  cases o with
  | none => exact hd
  | some v =>
    show (if v < 0 then (v + (n : Int)).toNat else min v.toNat n) ≤ n
    by_cases hv : v < 0
    · rw [if_pos hv]; omega
    · rw [if_neg hv]; exact Nat.min_le_right _ _
theorem clip_eq (v : Int) (n d : Nat) : (if v < 0 then max (v + (n : Int)) 0 else min v (n : Int)) = ((sIx n d (some v) : Nat) : Int) := by
  show (if v < 0 then max (v + (n : Int)) 0 else min v (n : Int)) = (((if v < 0 then (v + (n : Int)).toNat else min v.toNat n) : Nat) : Int)
  by_cases hv : v < 0
  · simp only [if_pos hv]; omega
  · simp only [if_neg hv]; omega
theorem adjust_gen (lo hi : Option Int) (n : Nat) : Builtin.Slice.sliceAdjust lo hi 1 (n : Int) = (((sIx n 0 lo : Nat) : Int), ((sIx n n hi : Nat) : Int)) := by
  have h1 : ¬ ((1 : Int) < 0) := by omega
  unfold Builtin.Slice.sliceAdjust
  simp only [h1, if_false]
  refine Prod.ext ?_ ?_
  · cases lo with
    | none => rfl
    | some v => exact clip_eq v n 0
  · cases hi with
    | none => rfl
    | some v => exact clip_eq v n n
theorem places_gen (i j : Nat) : Builtin.Slice.slicePlaces (i : Int) (j : Int) 1 = j - i := by
  unfold Builtin.Slice.slicePlaces
  have h1 : (1 : Int) > 0 := by omega
  simp only [h1, if_true, Int.ediv_one]
  split <;> omega
theorem slicePart_ {v : Value} {o : Option Int} {Q : Option Int → Shared → Prop} (p : IsPart v o) (h : Q o s) : wpAny (model prog w) A (Builtin.Slice.slicePartIndex v) Q E s := by
  cases p with
  | none => exact slicePart_none h
  | int i t => exact slicePart_int h
theorem sliceApplied_gen {sl : Addr} {vl vu : Value} {lo hi : Option Int} {n : Nat} {Q : Int × Int × Nat → Shared → Prop} (hs : s.heap.IsSliceOf sl vl vu .none) (pl : IsPart vl lo) (pu : IsPart vu hi)
    (h : Q (((sIx n 0 lo : Nat) : Int), 1, sIx n n hi - sIx n 0 lo) s) : wpAny (model prog w) A (Builtin.Slice.sliceApplied (.ref sl) (pure (n : Int))) Q E s := by
  obtain ⟨os, hos, hcs, hds⟩ := id hs
  unfold Builtin.Slice.sliceApplied Builtin.Slice.sliceFields
  refine wpAny_bind (wpAny_bind (wpAny_field hos hds (x := vl) rfl (wpAny_bind (wpAny_field hos hds (x := vu) rfl (wpAny_bind (wpAny_field hos hds (x := .none) rfl (wpAny_pure ?_)))))))
  refine wpAny_bind (slicePart_none ?_)
  show wpAny _ _ (if ((1 : Int) == 0) = true then _ else _) _ _ s
  rw [if_neg (by decide)]
  refine wpAny_bind (slicePart_ pl (wpAny_bind (slicePart_ pu (wpAny_bind (wpAny_pure ?_)))))
  show wpAny _ _ (match Builtin.Slice.sliceAdjust lo hi 1 (n : Int) with | (lo, hi) => pure (lo, (1 : Int), Builtin.Slice.slicePlaces lo hi 1)) _ _ s
  rw [adjust_gen lo hi n]
  show wpAny _ _ (pure (((sIx n 0 lo : Nat) : Int), (1 : Int), Builtin.Slice.slicePlaces ((sIx n 0 lo : Nat) : Int) ((sIx n n hi : Nat) : Int) 1)) _ _ s
  rw [places_gen]
  exact wpAny_pure h
theorem pick_gen (xs : Array Value) (i k : Nat) : ((List.range k).filterMap fun (m : Nat) => xs[((i : Int) + (m : Int) * 1).toNat]?).toArray = ((xs.toList.drop i).take k).toArray := by
  have e : (fun (m : Nat) => xs[((i : Int) + (m : Int) * 1).toNat]?) = fun m => xs[i + m]? := by
    funext m
    have : ((i : Int) + (m : Int) * 1).toNat = i + m := by omega
    rw [this]
  rw [e]
  have := pick_run xs i k
  rw [List.filterMap_map] at this
  have e2 : ((fun x => xs[x]?) ∘ fun x => i + x) = fun m => xs[i + m]? := rfl
  rw [e2] at this
  rw [this]

theorem getItem_tuple_cut {t sl : Addr} {items : Array Value} {vl vu : Value} {lo hi : Option Int} {Q : Value → Shared → Prop} (ht : IsTup s.heap t items) (hs : s.heap.IsSliceOf sl vl vu .none) (pl : IsPart vl lo) (pu : IsPart vu hi)
    (hw : ¬ (sIx items.size 0 lo = 0 ∧ sIx items.size items.size hi = items.size))
    (h : Q (.ref s.heap.objs.size) { s with heap := s.heap.push { cls := .type "tuple", data := .seq ((items.toList.drop (sIx items.size 0 lo)).take (sIx items.size items.size hi - sIx items.size 0 lo)).toArray } })
    (hsz : items.size ≤ sizeLine) : wpAny (model prog w) A (getItem (.ref t) (.ref sl)) Q E s := by
  have htake : sizeOk (.seq ((items.toList.drop (sIx items.size 0 lo)).take (sIx items.size items.size hi - sIx items.size 0 lo)).toArray) := by
    show ((items.toList.drop (sIx items.size 0 lo)).take (sIx items.size items.size hi - sIx items.size 0 lo)).toArray.size ≤ sizeLine
    rw [List.size_toArray, List.length_take, List.length_drop, Array.length_toList]
    omega
  have hj : sIx items.size items.size hi ≤ items.size := sIx_le _ _ (Nat.le_refl _) hi
  obtain ⟨os, hos, hcs, hds⟩ := id hs
  have hTs : s.TypeIs (.ref sl) "slice" := ⟨os, hos, hcs⟩
  unfold getItem
  try with_reducible refine wpAny_holding ?_
  first | refine wpAny_bind (wpAny_pure ?_) | skip
  refine wpAny_bind (wpAny_sequenceKey ht.typeIs (by decide) ?_)
  refine wpAny_bind (wpAny_callSpecial?_slot (name := Str.ofString "__getitem__") ht.typeIs PyProof.Rows.slot_tuple_getitem
    (wpAny_call_entry PyProof.Rows.slot_tuple_getitem ht.typeIs entry_tuple_getitem ?_ (args_tuple_getitem _ _)))
  show wpAny _ _ (Builtin.Tuple.tupleItemsOf (.ref t) >>= _) _ _ s
  refine wpAny_bind (tupleItemsOf_ ht ?_)
  refine wpAny_bind (wpAny_typeOf hTs ?_)
  rw [if_pos (by decide)]
  refine wpAny_bind (sliceApplied_gen hs pl pu ?_)
  have hno : ¬ ((((sIx items.size 0 lo : Nat) : Int) == 0 && (1 : Int) == 1 && (sIx items.size items.size hi - sIx items.size 0 lo) == items.size) = true) := by
    intro q
    rw [Bool.and_eq_true, Bool.and_eq_true] at q
    have q1 : ((sIx items.size 0 lo : Nat) : Int) = 0 := eq_of_beq q.1.1
    have q2 : sIx items.size items.size hi - sIx items.size 0 lo = items.size := eq_of_beq q.2
    exact hw ⟨by omega, by omega⟩
  show wpAny _ _ (if (((sIx items.size 0 lo : Nat) : Int) == 0 && (1 : Int) == 1 && (sIx items.size items.size hi - sIx items.size 0 lo) == items.size) = true then _ else _) _ _ s
  rw [if_neg hno, pick_gen]
  first
    | exact wpAny_bind (m := Builtin.Tuple.tupleExact _) (wpAny_newObj_type (wpAny_pure ⟨_, rfl, wpAny_pure h⟩) htake)
    | exact wpAny_bind (m := Builtin.Tuple.tupleExact _) (wpAny_newObj_type (wpAny_bind (wpAny_pure (wpAny_pure ⟨_, rfl, wpAny_pure h⟩))) htake)
    | exact wpAny_bind (wpAny_bind (m := Builtin.Tuple.tupleExact _) (wpAny_newObj_type (wpAny_pure (wpAny_pure ⟨_, rfl, wpAny_pure h⟩)) htake))
    | exact wpAny_bind (wpAny_bind (m := Builtin.Tuple.tupleExact _) (wpAny_newObj_type (wpAny_pure ⟨_, rfl, wpAny_pure h⟩) htake))
end
end HT

namespace L2
open PySem PySem.Spec PyProof.Rows

/-! ### the parts of a slice -/
abbrev TO := St → Hp → (Option Int → Hp → Prop) → Prop
/-- a slice's part (left out, or an int) -/
def PO (X : Cx) (e : Option Expr) (t : TO) : Prop :=
  ∀ (pins : List (Addr × Obj)) (s : Shared) (σ : St) (H : Hp) (Q : Option Int → Hp → Prop), Inv X pins σ H s → t σ H Q →
    wpAny (model X.prog X.w) X.A (evalPart e X.env) (fun u s' => ∃ o H', Inv X pins σ H' s' ∧ IsPart u o ∧ Q o H') X.xe s
def tNoPart : TO := fun _ H Q => Q none H
def tPart (t : TE) : TO := fun σ H Q => t σ H fun x H1 => ∃ i, x = .int i ∧ Q (some i) H1

theorem intsAre_of {ns : List Int} : ∀ {us : List Value}, Vals (ns.map V.int) us → IntsAre us ns := by
  induction ns with
  | nil => intro us r; rw [List.map_nil] at r; cases r; exact .nil
  | cons n ns ih =>
    intro us r
    rw [List.map_cons] at r
    cases r with
    | cons r1 r2 =>
      obtain ⟨t, e⟩ := r1
      subst e
      exact .cons n t (ih r2)

section
variable {X : Cx} {e : Expr} {te : TE} {lo hi : Option Expr} {tl th : TO} {pos p2 : Pos}

theorem po_none : PO X none tNoPart := by
  intro pins s σ H Q I h
  rw [evalPart_none]
  exact wpAny_pure ⟨none, H, I, .none, h⟩
theorem po_some (h : PE X e te) : PO X (some e) (tPart te) := by
  intro pins s σ H Q I hw
  rw [evalPart_some]
  refine thn (h pins s σ H _ I hw) fun u s1 ⟨x, H1, I1, r1, q1⟩ => ?_
  obtain ⟨i, rfl, q⟩ := q1
  obtain ⟨t, rfl⟩ := r1
  exact ⟨some i, H1, I1, .int i t, q⟩

/-- what a slice of a value is, by values: the slice object stands at sl -/
def SlR (X : Cx) (r : V → Option Int → Option Int → Hp → VK → Prop) : Prop :=
  ∀ (pins : List (Addr × Obj)) (s : Shared) (σ : St) (H : Hp) (x : V) (v vl vu : Value) (lo hi : Option Int) (sl : Addr) (Q : VK), Inv X pins σ H s → RelV x v → s.heap.IsSliceOf sl vl vu .none → IsPart vl lo → IsPart vu hi → r x lo hi H Q →
    ∃ T id, typeLookup (.type T) "__getitem__" = pure (some (.builtin id)) ∧ s.TypeIs v T ∧ wpAny (model X.prog X.w) X.A (getItem v (.ref sl)) (EP X pins σ Q) X.xe s
def tSl (r : V → Option Int → Option Int → Hp → VK → Prop) (te : TE) (tl th : TO) : TE := fun σ H Q => te σ H fun x H1 => tl σ H1 fun l H2 => th σ H2 fun u H3 => r x l u H3 Q
/-- a[lo:hi], any a -/
theorem pe_slice {r : V → Option Int → Option Int → Hp → VK → Prop} (hr : SlR X r) (he : PE X e te) (hl : PO X lo tl) (hu : PO X hi th) : PE X (.Subscript e (.Slice lo hi none p2) pos) (tSl r te tl th) := by
  intro pins s σ H Q I h
  refine Subscript_ (thn (he pins s σ H _ I h) fun v s1 ⟨x, H1, I1, r1, q1⟩ => ?_)
  refine wpAny_Slice (thn (hl pins s1 σ H1 _ I1 q1) fun vl s2 ⟨l, H2, I2, pl, q2⟩ => thn (hu pins s2 σ H2 _ I2 q2) fun vu s3 ⟨u, H3, I3, pu, q3⟩ => ?_)
  rw [evalPart_none]
  refine wpAny_pure ?_
  have I4 : Inv X pins σ H3 { s3 with heap := s3.heap.push { cls := .type "slice", data := .fields #[vl, vu, .none] } } := I3.kept (t' := s3.toks) fun b ob q => Heap.get?_push_of_some _ q
  obtain ⟨T, id, hT, ht, hg⟩ := hr pins { s3 with heap := s3.heap.push { cls := .type "slice", data := .fields #[vl, vu, .none] } } σ H3 x v vl vu l u s3.heap.objs.size Q I4 r1 (Heap.IsSliceOf.new ..) pl pu q3
  show wpAny (model X.prog X.w) X.A (subscriptTail e (.Slice lo hi none p2) v (.ref s3.heap.objs.size)) (EP X pins σ Q) X.xe { s3 with heap := s3.heap.push { cls := .type "slice", data := .fields #[vl, vu, .none] } }
  exact tail_any (ops := [.ref s3.heap.objs.size, v]) ht hT hg (by with_unfolding_all rfl)

/-- the items of xs[lo:hi] -/
def cutV (xs : List V) (lo hi : Option Int) : List V := (xs.drop (HT.sIx xs.length 0 lo)).take (HT.sIx xs.length xs.length hi - HT.sIx xs.length 0 lo)
theorem cutV_length (xs : List V) (lo hi : Option Int) : (cutV xs lo hi).length ≤ xs.length := by
  unfold cutV
  rw [List.length_take, List.length_drop]
  omega
/-- t[lo:hi], not the whole of it (the whole would be t itself) -/
def rSlT (K : PySem.W.Frag) : V → Option Int → Option Int → Hp → VK → Prop := fun x lo hi H Q => ∃ a xs, x = .ref a ∧ SqT K H a xs ∧
  ¬ (HT.sIx xs.length 0 lo = 0 ∧ HT.sIx xs.length xs.length hi = xs.length) ∧ ∀ p, H p = none → Q (.ref p) (upd H p (.tup (cutV xs lo hi)))
theorem sl_tup : SlR X (rSlT X.K) := by
  intro pins s σ H x v vl vu lo hi sl Q I rx hs pl pu h
  obtain ⟨a, xs, rfl, hx, hw, q⟩ := h
  cases rx
  obtain ⟨its, r, ht, hz⟩ := I.tuple hx
  have hlen : its.toArray.size = xs.length := by rw [List.size_toArray]; exact r.length.symm
  refine ⟨"tuple", _, PyProof.Rows.slot_tuple_getitem.lookup, ht.typeIs, ?_⟩
  refine HT.getItem_tuple_cut ht hs pl pu (by rw [hlen]; exact hw) ?_ (by rw [hlen]; exact hz)
  rw [hlen]
  refine ⟨.ref s.heap.objs.size, _, I.laid (t' := s.toks) (o := .tup (cutV xs lo hi)) (fun b ob q => Heap.get?_push_of_some _ q) (Nat.le_refl _) ?_, rfl, q _ (I.hok.fresh (Nat.le_refl _))⟩
  exact ⟨Nat.le_trans (cutV_length xs lo hi) hz, _, (r.drop (HT.sIx xs.length 0 lo)).take (HT.sIx xs.length xs.length hi - HT.sIx xs.length 0 lo), IsTup.new _ _⟩

/-! ### t < u, t + u -/
/-- t + u, t not empty: u empty gives t itself -/
def rCatT (K : PySem.W.Frag) : R2 := fun x y H Q => ∃ a b xs ys, x = .ref a ∧ y = .ref b ∧ SqT K H a xs ∧ SqT K H b ys ∧ xs ≠ [] ∧ xs.length + ys.length ≤ sizeLine ∧
  (ys = [] → Q (.ref a) H) ∧ (ys ≠ [] → ∀ p, H p = none → Q (.ref p) (upd H p (.tup (xs ++ ys))))
theorem Vals.nil_iff {xs : List V} {us : List Value} (r : Vals xs us) : us = [] ↔ xs = [] := by
  cases r with
  | nil => simp
  | cons _ _ => simp
theorem op_catT : OpR X (binaryOp .Add) (rCatT X.K) := by
  intro pins s σ H x y v u Q I rx ry h
  obtain ⟨a, b, xs, ys, rfl, rfl, ha, hb, hx, hz, q1, q2⟩ := h
  cases rx
  cases ry
  obtain ⟨its, r1, p1, _⟩ := I.tuple ha
  obtain ⟨its2, r2, p2, _⟩ := I.tuple hb
  refine HT.cat_tup p1 p2 (fun z => hx (r1.nil_iff.mp z)) (fun z => ⟨.ref a, H, I, rfl, q1 (r2.nil_iff.mp z)⟩) (fun z => ?_) (by rw [← r1.length, ← r2.length]; exact hz)
  refine ⟨.ref s.heap.objs.size, _, I.laid (t' := s.toks) (o := .tup (xs ++ ys)) (fun b ob q => Heap.get?_push_of_some _ q) (Nat.le_refl _) ?_, rfl, q2 (fun w => z (r2.nil_iff.mpr w)) _ (I.hok.fresh (Nat.le_refl _))⟩
  exact ⟨by rw [List.length_append]; exact hz, _, r1.append r2, IsTup.new _ _⟩
end
end L2

namespace L2
open PySem PySem.Spec PyProof.Rows

/-! ### places -/
/-- the place that an index of any sign means -/
def ixN (n : Nat) (i : Int) : Option Nat := if 0 ≤ i then (if i < n then some i.toNat else none) else if -(n : Int) ≤ i then some (i + n).toNat else none
def atI {α : Type} (xs : List α) (i : Int) : Option α := (ixN xs.length i).bind fun j => xs[j]?
theorem ixN_seq {n : Nat} {i : Int} {j : Nat} (h : ixN n i = some j) : seqIndex? i n = some j ∧ j < n ∧ -(n : Int) ≤ i ∧ i < n := by
  unfold ixN at h
  by_cases h0 : 0 ≤ i
  · rw [if_pos h0] at h
    by_cases h1 : i < n
    · rw [if_pos h1] at h
      have e : i.toNat = j := Option.some.inj h
      exact ⟨by rw [seqIndex_of h0 h1, e], by omega, by omega, h1⟩
    · rw [if_neg h1] at h; cases h
  · rw [if_neg h0] at h
    by_cases h1 : -(n : Int) ≤ i
    · rw [if_pos h1] at h
      have e : (i + n).toNat = j := Option.some.inj h
      exact ⟨by rw [seqIndex_neg (by omega) h1, e], by omega, h1, by omega⟩
    · rw [if_neg h1] at h; cases h
theorem atI_get {α : Type} {xs : List α} {i : Int} {v : α} (h : atI xs i = some v) : ∃ j, seqIndex? i xs.length = some j ∧ xs[j]? = some v ∧ j < xs.length ∧ -(xs.length : Int) ≤ i ∧ i < xs.length := by
  unfold atI at h
  cases e : ixN xs.length i with
  | none => rw [e] at h; cases h
  | some j =>
    rw [e] at h
    obtain ⟨h1, h2, h3, h4⟩ := ixN_seq e
    exact ⟨j, h1, h, h2, h3, h4⟩
theorem atI_nat {α : Type} {xs : List α} {j : Nat} {v : α} (h : xs[j]? = some v) : atI xs (j : Int) = some v := by
  have hj : j < xs.length := (List.getElem?_eq_some_iff.mp h).1
  have e : ixN xs.length (j : Int) = some j := by
    unfold ixN
    rw [if_pos (by omega), if_pos (by omega)]; simp
  unfold atI; rw [e]; exact h

/-! ### what may be subscripted -/
/-- what stands as an index of a plain subscript -/
def PlainIx (b : Expr) : Prop := ∀ o i, subscripted b false o i = operate [o, i] (getItem o i)
/-- a subscript by values -/
def IxR (X : Cx) (r : R2) : Prop :=
  ∀ (value slice : Expr) (pins : List (Addr × Obj)) (s : Shared) (σ : St) (H : Hp) (x y : V) (v u : Value) (Q : VK), Inv X pins σ H s → RelV x v → RelV y u → r x y H Q →
    subscripted slice false v u = operate [v, u] (getItem v u) → wpAny (model X.prog X.w) X.A (subscriptTail value slice v u) (EP X pins σ Q) X.xe s
/-- a call of a builtin's method by values: the receiver, the arguments -/
def MtR (X : Cx) (id : String) (r : V → List V → Hp → VK → Prop) : Prop :=
  ∀ (pins : List (Addr × Obj)) (s : Shared) (σ : St) (H : Hp) (x : V) (xs : List V) (v : Value) (us : List Value) (Q : VK), Inv X pins σ H s → RelV x v → Vals xs us → r x xs H Q →
    wpAny (model X.prog X.w) X.A (call (.builtin id) (v :: us)) (EP X pins σ Q) X.xe s
section
variable {X : Cx} {a b : Expr} {ta tb : TE} {pos : Pos}
/-- a[b] -/
theorem pe_ix {r : R2} (hr : IxR X r) (ha : PE X a ta) (hb : PE X b tb) (hs : PlainIx b) : PE X (.Subscript a b pos) (tOp r ta tb) := by
  intro pins s σ H Q I h
  exact Subscript_ (binT ha hb I h fun v u s2 x y H2 I2 rx ry q => hr a b pins s2 σ H2 x y v u Q I2 rx ry q (hs _ _))

def rIxL (K : PySem.W.Frag) : R2 := fun x y H Q => ∃ p xs i v, x = .ref p ∧ y = .int i ∧ SqL K H p xs ∧ atI xs i = some v ∧ Q v H
def rIxT (K : PySem.W.Frag) : R2 := fun x y H Q => ∃ p xs i v, x = .ref p ∧ y = .int i ∧ SqT K H p xs ∧ atI xs i = some v ∧ Q v H
theorem ix_list : IxR X (rIxL X.K) := by
  intro value slice pins s σ H x y v u Q I rx ry h hs
  obtain ⟨p, xs, i, z, rfl, rfl, hq, he, q⟩ := h
  cases rx
  obtain ⟨t, rfl⟩ := ry
  obtain ⟨its, r, pl, hz⟩ := I.list hq
  obtain ⟨j, h1, h2, h3, h4, h5⟩ := atI_get he
  obtain ⟨w, ew, rw'⟩ := r.get h2
  have hl := r.length
  have hn := line63
  have fin : EP X pins σ Q w s := ⟨z, H, I, rw', q⟩
  by_cases h0 : 0 ≤ i
  · have hj : i.toNat = j := by
      rw [seqIndex_of h0 h5] at h1
      exact Option.some.inj h1
    exact item_listR pl.isList h0 (by omega) (by rw [hj]; simpa using ew) fin hs
  · have hj : (i + (its.toArray.size : Int)).toNat = j := by
      rw [seqIndex_neg (by omega) h4] at h1
      rw [List.size_toArray, ← hl]
      exact Option.some.inj h1
    exact subscriptTail_builtinR (x := w) pl.isList.typeIs slot_list_getitem.lookup
      (wpAny_getItem_list_neg (Q := fun r s' => r = w ∧ EP X pins σ Q r s') pl.isList (by omega) (by rw [List.size_toArray] <;> omega) (by omega) (by rw [hj]; simpa using ew) ⟨rfl, fin⟩) hs
theorem ix_tup : IxR X (rIxT X.K) := by
  intro value slice pins s σ H x y v u Q I rx ry h hs
  obtain ⟨p, xs, i, z, rfl, rfl, hq, he, q⟩ := h
  cases rx
  obtain ⟨t, rfl⟩ := ry
  obtain ⟨its, r, pl, hz⟩ := I.tuple hq
  obtain ⟨j, h1, h2, h3, h4, h5⟩ := atI_get he
  obtain ⟨w, ew, rw'⟩ := r.get h2
  have hl := r.length
  have hn := line63
  have fin : EP X pins σ Q w s := ⟨z, H, I, rw', q⟩
  exact subscriptTail_builtinR (x := w) pl.typeIs slot_tuple_getitem.lookup
    (getItem_tuple (j := j) (Q := fun r s' => r = w ∧ EP X pins σ Q r s') pl (by omega) (by omega) (by rw [List.size_toArray, ← hl]; exact h1) (by simpa using ew) ⟨rfl, fin⟩) hs

/-! ### xs[i] = v, any sign -/
/-- the list's object behind a store -/
theorem mapSeq_set (its : List Value) (n j : Nat) (u : Value) : Obj.mapSeq (·.setIfInBounds j u) { cls := .type "list", data := .seq its.toArray n } = { cls := .type "list", data := .seq (its.set j u).toArray n } := by
  simp [Obj.mapSeq]
theorem Inv.lst {pins : List (Addr × Obj)} {σ : St} {H : Hp} {s : Shared} {p : Addr} {xs : List V} (I : Inv X pins σ H s) (h : H p = some (.lst xs)) :
    ∃ (its : List Value) (n : Nat), Vals xs its ∧ s.heap.get? p = some { cls := .type "list", data := .seq its.toArray n } ∧ xs.length ≤ sizeLine := by
  obtain ⟨z, its, n, r, e⟩ := I.hok p _ h
  exact ⟨its, n, r, e, z⟩
/-- the list at p is written by an update of its object -/
theorem Inv.lstUpd {pins : List (Addr × Obj)} {σ : St} {H : Hp} {s : Shared} {p : Addr} {xs ys : List V} {its its' : List Value} {n n' : Nat} {f : Obj → Obj} (I : Inv X pins σ H s) (h : H p = some (.lst xs))
    (ho : s.heap.get? p = some { cls := .type "list", data := .seq its.toArray n }) (hf : f { cls := .type "list", data := .seq its.toArray n } = { cls := .type "list", data := .seq its'.toArray n' }) (r : Vals ys its') (hz : ys.length ≤ sizeLine) (t : Nat) :
    Inv X pins σ (upd H p (.lst ys)) { s with heap := s.heap.update p f, toks := t } := by
  have e : (s.heap.update p f).get? p = some { cls := .type "list", data := .seq its'.toArray n' } := by
    rw [Heap.get?_update_self f ho (by rw [hf] <;> rfl), hf]
  refine I.write (x := p) (e := p) (by rw [h]; trivial) (.inl rfl) (fun b u hb q => (Heap.get?_update_other _ _ (Ne.symm hb)).trans q) ⟨_, e⟩ ?_
  exact ⟨hz, its', n', r, e⟩
def rSetL : V → V → V → Hp → (Hp → Prop) → Prop := fun o i v H Q => ∃ p xs k j, o = .ref p ∧ i = .int k ∧ H p = some (.lst xs) ∧ ixN xs.length k = some j ∧ Q (upd H p (.lst (xs.set j v)))
theorem set_list : PSet X rSetL := by
  intro pins s σ H o i v ov iv u Q I ro ri rv h
  obtain ⟨p, xs, k, j, rfl, rfl, hp, hj, q⟩ := h
  cases ro
  obtain ⟨t, rfl⟩ := ri
  obtain ⟨its, n, r, ho, hz⟩ := I.lst hp
  obtain ⟨h1, h2, h3, h4⟩ := ixN_seq hj
  have hl := r.length
  have hn := line63
  have I' : Inv X pins σ (upd H p (.lst (xs.set j v))) { s with heap := s.heap.update p (Obj.mapSeq (·.setIfInBounds j u)) } :=
    I.lstUpd hp ho (mapSeq_set its n j u) (r.set rv j) (by rw [List.length_set]; exact hz) s.toks
  by_cases h0 : 0 ≤ k
  · have hk : k.toNat = j := by
      rw [seqIndex_of h0 h4] at h1
      exact Option.some.inj h1
    exact PySem.W.ki_setAt ho h0 (by omega) (by rw [List.size_toArray, ← hl]; exact h4) (by rw [hk]; exact ⟨_, I', q⟩)
  · have hk : (k + (its.toArray.size : Int)).toNat = j := by
      rw [seqIndex_neg (by omega) h3] at h1
      rw [List.size_toArray, ← hl]
      exact Option.some.inj h1
    exact PySem.W.ki_setBack ho (by omega) (by rw [List.size_toArray, ← hl]; exact h3) (by omega) (by rw [hk]; exact ⟨_, I', q⟩)

/-! ### slices -/

/-! ### in, not in: flat items -/

/-! ### len, list(x), tuple(x) of any list or tuple that is read -/
theorem call_len_seq : CallR X (.builtin "len") (fun xs H Q => ∃ p ys, xs = [.ref p] ∧ (SqL X.K H p ys ∨ SqT X.K H p ys) ∧ Q (.int ys.length) H) := by
  intro pins s σ H xs us Q I r h
  obtain ⟨p, ys, rfl, hq, q⟩ := h
  obtain ⟨u, rfl, rx⟩ := vals1 r
  cases rx
  have hn := line63
  rcases hq with hq | hq
  · obtain ⟨its, r', pl, hz⟩ := I.list hq
    have hlen := r'.length
    exact Calls.call_len_list pl.isList (by simp only [List.size_toArray] <;> omega) ⟨.int ys.length, H, I.tok _, ⟨s.toks + 1, by rw [List.size_toArray, hlen]⟩, q⟩
  · obtain ⟨its, r', pl, hz⟩ := I.tuple hq
    have hlen := r'.length
    exact len_tuple pl (by simp only [List.size_toArray] <;> omega) ⟨.int ys.length, H, I.tok _, ⟨s.toks + 1, by rw [List.size_toArray, hlen]⟩, q⟩
theorem call_list_of : CallR X (.type "list") (fun xs H Q => ∃ p ys, xs = [.ref p] ∧ (SqL X.K H p ys ∨ SqT X.K H p ys) ∧ ∀ l, H l = none → Q (.ref l) (upd H l (.lst ys))) := by
  intro pins s σ H xs us Q I r h
  obtain ⟨p, ys, rfl, hq, q⟩ := h
  obtain ⟨u, rfl, rx⟩ := vals1 r
  cases rx
  have fin : ∀ (its : List Value), Vals ys its → ys.length ≤ sizeLine → ∀ (h' : Heap) (c' : Nat), (∀ b o', s.heap.get? b = some o' → h'.get? b = some o') →
      h'.get? s.heap.objs.size = some { cls := .type "list", dict := none, data := .seq its.toArray c', slots := #[] } → EP X pins σ Q (.ref s.heap.objs.size) { s with heap := h' } := fun its r' hz h' c' kp e =>
    ⟨.ref s.heap.objs.size, _, I.laid (t' := s.toks) kp (Nat.le_refl _) (show ObjOk X.prog X.w _ h' _ (.lst ys) from ⟨hz, its, c', r', e⟩), rfl, q _ (I.hok.fresh (Nat.le_refl _))⟩
  rcases hq with hq | hq
  · obtain ⟨its, r', pl, hz⟩ := I.list hq
    have hlen := r'.length
    obtain ⟨o, ho, hc, n, hd⟩ := pl.isList
    exact call_list_seq p (.inl rfl) ho hc hd (fun h' c' kp e => fin its r' hz h' c' kp e) (by simp only [List.size_toArray] <;> omega)
  · obtain ⟨its, r', pl, hz⟩ := I.tuple hq
    have hlen := r'.length
    obtain ⟨o, ho, hc, n, hd⟩ := pl
    exact call_list_seq p (.inr rfl) ho hc hd (fun h' c' kp e => fin its r' hz h' c' kp e) (by simp only [List.size_toArray] <;> omega)
theorem call_tuple_of : CallR X (.type "tuple") (fun xs H Q => ∃ p ys, xs = [.ref p] ∧ ((SqL X.K H p ys ∧ ∀ l, H l = none → Q (.ref l) (upd H l (.tup ys))) ∨ (SqT X.K H p ys ∧ Q (.ref p) H))) := by
  intro pins s σ H xs us Q I r h
  obtain ⟨p, ys, rfl, h⟩ := h
  obtain ⟨u, rfl, rx⟩ := vals1 r
  cases rx
  rcases h with ⟨hq, q⟩ | ⟨hq, q⟩
  · obtain ⟨its, r', pl, hz⟩ := I.list hq
    have hlen := r'.length
    refine call_tuple_list pl.isList (fun h' kp => ?_) (by simp only [List.size_toArray] <;> omega)
    have I1 : Inv X pins σ H { s with heap := h' } := I.kept (t' := s.toks) kp
    have I2 : Inv X pins σ (upd H h'.objs.size (.tup ys)) { s with heap := h'.push { cls := .type "tuple", data := .seq its.toArray } } :=
      I1.laid (t' := s.toks) (fun b o e => Heap.get?_push_of_some _ e) (Nat.le_refl _) (show ObjOk X.prog X.w _ _ _ (.tup ys) from ⟨hz, its, r', IsTup.new _ _⟩)
    exact ⟨.ref h'.objs.size, _, I2, rfl, q _ (I1.hok.fresh (Nat.le_refl _))⟩
  · obtain ⟨its, r', pl, hz⟩ := I.tuple hq
    exact call_tuple_same pl ⟨.ref p, H, I, rfl, q⟩

/-! ### the call of a builtin's method: o.m(..) -/
/-- the value is of that builtin type -/
def tyV (K : PySem.W.Frag) (T : String) (x : V) (H : Hp) : Prop := match x with
  | .str _ => T = "str"
  | .int _ => T = "int"
  | .ref p => (T = "list" ∧ ∃ xs, SqL K H p xs) ∨ (T = "tuple" ∧ ∃ o, K.lookup p = some o ∧ o.cls = .type "tuple" ∧ o.dict = none) ∨
      (T = "dict" ∧ ((∃ kvs, H p = some (.dK kvs)) ∨ ∃ kvs, H p = some (.dT kvs))) ∨ (T = "set" ∧ ∃ S n, H p = some (.set S n))
  | _ => False
theorem tyV_is {pins : List (Addr × Obj)} {σ : St} {H : Hp} {s : Shared} {T : String} {x : V} {v : Value} (I : Inv X pins σ H s) (r : RelV x v) (ty : tyV X.K T x H) :
    s.TypeIs v T ∧ ∀ a, v = .ref a → ∃ ob, s.heap.get? a = some ob ∧ ob.dict = none := by
  cases x with
  | str z =>
    obtain ⟨t, rfl⟩ := r
    cases (show T = "str" from ty)
    exact ⟨typeIs_str s z t, fun _ e => nomatch e⟩
  | int i =>
    obtain ⟨t, rfl⟩ := r
    cases (show T = "int" from ty)
    exact ⟨typeIs_int s i t, fun _ e => nomatch e⟩
  | ref p =>
    cases r
    rcases ty with ⟨rfl, xs, hq⟩ | ⟨rfl, o, hk, hc, hd⟩ | ⟨rfl, hk⟩ | ⟨rfl, S, n, hk⟩
    · obtain ⟨its, _, pl, _⟩ := I.list hq
      refine ⟨pl.isList.typeIs, fun a e => ?_⟩
      cases e
      obtain ⟨o, n, e, c, hd, _⟩ := pl
      exact ⟨o, e, hd⟩
    · refine ⟨⟨o, I.kIn p o hk, hc⟩, fun a e => ?_⟩
      cases e
      exact ⟨o, I.kIn _ o hk, hd⟩
    · have z : ∃ o, s.heap.get? p = some o ∧ o.ExactDict := by
        rcases hk with ⟨kvs, hk⟩ | ⟨kvs, hk⟩
        · obtain ⟨_, _, _, _, o, _, _, e, ex, _⟩ := I.hok p _ hk
          exact ⟨o, e, ex⟩
        · obtain ⟨_, _, _, _, o, _, _, e, ex, _⟩ := I.hok p _ hk
          exact ⟨o, e, ex⟩
      obtain ⟨o, e, ex⟩ := z
      refine ⟨⟨o, e, ex.1⟩, fun a e2 => ?_⟩
      cases e2
      exact ⟨o, e, ex.2.1⟩
    · obtain ⟨o, _, _, _, e, ex, _⟩ := I.hok p _ hk
      refine ⟨⟨o, e, ex.1⟩, fun a e2 => ?_⟩
      cases e2
      exact ⟨o, e, ex.2.1⟩
  | _ => exact False.elim ty
def tBM (K : PySem.W.Frag) (T : String) (r : V → List V → Hp → VK → Prop) (to : TE) (t : TA) : TE := fun σ H Q => to σ H fun x H1 => tyV K T x H1 ∧ t σ H1 fun xs H2 => r x xs H2 Q
variable {o e : Expr} {es : List Expr} {to : TE} {t : TA} {name : Str} {apos cpos : Pos} {T id : String} {r : V → List V → Hp → VK → Prop}
theorem pe_bm (pa : PlainAttrs T) (slot : Slot T name id) (hty : typeOf (.builtin id) = pure (.type "method_descriptor")) (hm : MtR X id r) (ho : PE X o to) (ha : PA X (e :: es) t)
    (hbase : attributeBase o name X.env (eval o X.env) = eval o X.env := by rfl)
    (hfew : ((backTo cpos (starEach (e :: es) X.env)).all (fun x => !x.1) && (backToKw cpos (keywordEach [] X.env)).all (fun x => x.1.isSome)
      && decide ((e :: es).length + ([] : List Keyword).length + (if ([] : List Keyword).isEmpty then 0 else 1) < 30)) = true := by rfl)
    (hline : (apos.endLine == cpos.line) = true := by rfl) (hs : starEach (e :: es) X.env = (false, eval e X.env) :: starEach es X.env := by rfl) (hplain : (backTo cpos (starEach es X.env)).any (·.1) = false := by rfl) :
    PE X (.Call (.Attribute o name apos) (e :: es) [] cpos) (tBM X.K T r to t) := by
  intro pins s σ H Q I h
  refine wpAny_Call_method_late hbase hfew hline rfl (thn (ho pins s σ H _ I h) fun v s1 ⟨x, H1, I1, r1, ty, q1⟩ => ?_)
  obtain ⟨h1, h2⟩ := tyV_is I1 r1 ty
  refine ⟨T, id, pa, slot, hty, h1, h2, ?_⟩
  have hA := ha cpos pins s1 σ H1 _ I1 q1
  rw [hs] at hA ⊢
  refine Calls.callWith_builtin (by show (false || (backTo cpos (starEach es X.env)).any (·.1)) = false; rw [hplain] <;> rfl) (Calls.evalArgs_plain ?_)
  exact thn hA fun us s2 ⟨vs, H2, I2, r2, q2⟩ => hm pins s2 σ H2 x vs v us Q I2 r1 r2 q2
/- xs.append(e), list.index on a module's tuple .. are MtR facts of 06m -/
end
end L2

namespace L2
open PySem PySem.Spec PyProof.Rows

def MtM (X : Cx) (id : String) (r : V → List V → Hp → VK → Prop) : Prop :=
  ∀ (pins : List (Addr × Obj)) (s : Shared) (σ : St) (H : Hp) (x : V) (xs : List V) (v : Value) (us : List Value) (Q : VK), Inv X pins σ H s → RelV x v → Vals xs us → r x xs H Q →
    wpAny (model X.prog X.w) X.A (call (.builtin id) (v :: us)) (EP X pins σ Q) X.xe s

/-! ### lists of values -/
theorem Vals.one : ∀ {x : V} {us : List Value}, Vals [x] us → ∃ u, us = [u] ∧ RelV x u
  | _, _, .cons r .nil => ⟨_, rfl, r⟩

section
variable {X : Cx} {pins : List (Addr × Obj)} {σ : St} {H : Hp} {s : Shared} {l b : Addr} {xs ys zs : List V}

/-! ### the two steps: a tracked list is rewritten, a new list is laid -/
theorem Inv.lset {its its' : List Value} {n : Nat} {f : Array Value → Array Value} {t' : Nat} (I : Inv X pins σ H s) (hH : H l = some (.lst xs))
    (e : s.heap.get? l = some { cls := .type "list", data := .seq its.toArray n }) (hf : f its.toArray = its'.toArray) (hv : Vals ys its') (hz : ys.length ≤ sizeLine) :
    Inv X pins σ (upd H l (.lst ys)) { s with heap := s.heap.update l (Obj.mapSeq f), toks := t' } := by
  have q := PySem.IsL.update e f
  rw [hf] at q
  refine I.write (x := l) (e := l) (by rw [hH]; exact trivial) (.inl rfl) (fun b' u hb hu => (Heap.get?_update_other s.heap (Obj.mapSeq f) (Ne.symm hb)).trans hu) ⟨_, q⟩ ?_
  exact ⟨hz, its', _, hv, q⟩
theorem Inv.lnew {its : List Value} {t' : Nat} (I : Inv X pins σ H s) (hv : Vals ys its) (hz : ys.length ≤ sizeLine) :
    Inv X pins σ (upd H s.heap.objs.size (.lst ys)) { s with heap := s.heap.push { cls := .type "list", data := .seq its.toArray }, toks := t' } :=
  I.laid (fun _ _ q => Heap.get?_push_of_some _ q) (Nat.le_refl _) ⟨hz, its, 0, hv, Heap.get?_push_size _ rfl⟩
theorem Inv.fresh (I : Inv X pins σ H s) : H s.heap.objs.size = none := I.hok.fresh (Nat.le_refl _)
theorem Inv.lstM (I : Inv X pins σ H s) (hH : H l = some (.lst xs)) : xs.length ≤ sizeLine ∧ ∃ (its : List Value) (n : Nat), Vals xs its ∧ xs.length = its.length ∧ s.heap.get? l = some { cls := .type "list", data := .seq its.toArray n } := by
  obtain ⟨z, its, n, r, e⟩ := I.hok l _ hH
  exact ⟨z, its, n, r, r.length, e⟩

theorem notLongL {n : Nat} (h : n ≤ sizeLine) : Builtin.List.listTooLong n = false := by
  unfold Builtin.List.listTooLong
  exact decide_eq_false (by omega)
end

section
variable {X : Cx}

/-! ### methods -/
def rAppend : V → List V → Hp → VK → Prop := fun x vs H Q => ∃ l xs y, x = .ref l ∧ vs = [y] ∧ H l = some (.lst xs) ∧ xs.length < sizeLine ∧ Q .non (upd H l (.lst (xs ++ [y])))
theorem mt_append : MtM X "list.append" rAppend := by
  intro pins s σ H x vs v us Q I rx rv h
  obtain ⟨l, xs, y, rfl, rfl, hH, hz, q⟩ := h
  cases rx
  obtain ⟨u, rfl, ru⟩ := rv.one
  obtain ⟨z, its, n, r, hl, e⟩ := I.lstM hH
  refine call_meets F.slot_list_append ⟨_, e, rfl⟩ F.entry_list_append (F.args_list_append_2 _ _) (PySem.list_append l its.toArray n u (by rw [List.size_toArray]; omega)) ⟨e, ?_⟩
  refine ⟨.non, _, I.lset (its' := its ++ [u]) hH e (by simp) (r.append (.cons ru .nil)) ?_, rfl, q⟩
  rw [List.length_append, List.length_singleton]
  omega

def rExtend : V → List V → Hp → VK → Prop := fun x vs H Q => ∃ l b xs zs, x = .ref l ∧ vs = [.ref b] ∧ H l = some (.lst xs) ∧ H b = some (.lst zs) ∧ xs.length + zs.length ≤ sizeLine ∧ Q .non (upd H l (.lst (xs ++ zs)))
theorem mt_extend : MtM X "list.extend" rExtend := by
  intro pins s σ H x vs v us Q I rx rv h
  obtain ⟨l, b, xs, zs, rfl, rfl, hH, hB, hz, q⟩ := h
  cases rx
  obtain ⟨u, rfl, ru⟩ := rv.one
  cases ru
  obtain ⟨z, its, n, r, hl, e⟩ := I.lstM hH
  obtain ⟨z2, its2, n2, r2, hl2, e2⟩ := I.lstM hB
  have hsz : its.toArray.size + its2.toArray.size ≤ sizeLine := by rw [List.size_toArray, List.size_toArray]; omega
  have hlong : ¬ (!its.toArray.isEmpty && Builtin.List.listTooLong (its.toArray.size + its2.toArray.size)) = true := by
    rw [notLongL hsz, Bool.and_false]
    exact Bool.false_ne_true
  refine call_meets F.slot_list_extend ⟨_, e, rfl⟩ F.entry_list_extend (F.args_list_extend_2 _ _)
    (AutoSeq1.list_extend_list_list_0 l its.toArray n b its2.toArray n2 hlong (by rw [List.size_toArray]; omega) (by omega)) ⟨e, e2, ?_⟩
  refine ⟨.non, _, I.lset (its' := its ++ its2) hH e (by simp) (r.append r2) ?_, rfl, q⟩
  rw [List.length_append]
  omega





/-! ### list + list, list += list, list * int -/
def rCat : R2 := fun x y H Q => ∃ l b xs zs, x = .ref l ∧ y = .ref b ∧ H l = some (.lst xs) ∧ H b = some (.lst zs) ∧ xs.length + zs.length ≤ sizeLine ∧ ∀ p, H p = none → Q (.ref p) (upd H p (.lst (xs ++ zs)))
theorem op_cat : OpR X (binaryOp .Add) rCat := by
  intro pins s σ H x y v u Q I rx ry h
  obtain ⟨l, b, xs, zs, rfl, rfl, hH, hB, hz, q⟩ := h
  cases rx
  cases ry
  obtain ⟨z, its, n, r, hl, e⟩ := I.lstM hH
  obtain ⟨z2, its2, n2, r2, hl2, e2⟩ := I.lstM hB
  refine PySem.P.add_list e e2 ?_ (by rw [List.size_toArray, List.size_toArray]; omega)
  have ea : its.toArray ++ its2.toArray = (its ++ its2).toArray := by simp
  rw [ea]
  exact ⟨.ref _, _, I.lnew (t' := s.toks) (r.append r2) (by rw [List.length_append]; omega), rfl, q _ I.fresh⟩

/-! ### del xs[i] -/
end

/-! ### xs[a:b] = ys -/
section
variable {prog : Program} {w : World} {A : Around} {E : Value → Shared → Prop} {s : Shared}
end

section
variable {X : Cx}
end
end L2

namespace L2
open PySem PySem.Spec PyProof.Rows

/-! ### lists of pairs as tables -/
section
variable {κ : Type} [DecidableEq κ]
def valV (kvs : List (κ × V)) (k : κ) : Option V := (kvs.find? fun kv => decide (kv.1 = k)).map (·.2)
/-- in its place, or at the end -/
def putK (kvs : List (κ × V)) (k : κ) (v : V) : List (κ × V) :=
  if (kvs.any fun kv => decide (kv.1 = k)) = true then kvs.map (fun kv => if kv.1 = k then (kv.1, v) else kv) else kvs ++ [(k, v)]

theorem valV_pos {p : κ × V} {r : List (κ × V)} {k : κ} (e : p.1 = k) : valV (p :: r) k = some p.2 := by simp [valV, List.find?_cons, e]
theorem valV_neg {p : κ × V} {r : List (κ × V)} {k : κ} (e : ¬ p.1 = k) : valV (p :: r) k = valV r k := by simp [valV, List.find?_cons, e]
theorem valV_any (k : κ) : ∀ kvs : List (κ × V), (kvs.any fun kv => decide (kv.1 = k)) = (valV kvs k).isSome
  | [] => rfl
  | p :: r => by
    rw [List.any_cons]
    by_cases e : p.1 = k
    · simp only [valV_pos e, decide_eq_true e, Bool.true_or, Option.isSome_some]
    · rw [valV_neg e, decide_eq_false e, Bool.false_or]; exact valV_any k r
theorem length_putK (kvs : List (κ × V)) (k : κ) (v : V) : (putK kvs k v).length ≤ kvs.length + 1 := by
  unfold putK
  split
  · rw [List.length_map]; omega
  · rw [List.length_append, List.length_cons, List.length_nil]; omega
theorem putK_new {kvs : List (κ × V)} {k : κ} (v : V) (h : valV kvs k = none) : putK kvs k v = kvs ++ [(k, v)] := by
  unfold putK
  rw [valV_any, h]
  exact if_neg (by decide)

theorem RelO.isSome_eq {o : Option V} {u : Option Value} (r : RelO o u) : o.isSome = u.isSome := by
  cases o with
  | none => cases u with
    | none => rfl
    | some _ => exact (show False from r).elim
  | some _ => cases u with
    | none => exact (show False from r).elim
    | some _ => rfl

/-- raw tables of the same keys -/
theorem KV.val {kvs : List (κ × V)} {vs : List (κ × Value)} (r : KV kvs vs) (k : κ) : RelO (valV kvs k) (valueAt vs k) := by
  unfold KV at r
  induction r with
  | nil => exact True.intro
  | @cons p q ps qs h t ih =>
    obtain ⟨h1, h2⟩ := h
    by_cases e : p.1 = k
    · have e' : q.1 = k := h1.symm.trans e
      have b : valueAt (q :: qs) k = some q.2 := by simp [valueAt, List.find?_cons, e']
      rw [valV_pos e, b]; exact h2
    · have e' : ¬ q.1 = k := fun z => e (h1.trans z)
      have b : valueAt (q :: qs) k = valueAt qs k := by simp [valueAt, List.find?_cons, e']
      rw [valV_neg e, b]; exact ih
theorem KV.any {kvs : List (κ × V)} {vs : List (κ × Value)} (r : KV kvs vs) (k : κ) : (kvs.any fun kv => decide (kv.1 = k)) = vs.any fun kv => decide (kv.1 = k) := by
  unfold KV at r
  induction r with
  | nil => rfl
  | cons h t ih => rw [List.any_cons, List.any_cons, ih, h.1]
theorem KV.repl {kvs : List (κ × V)} {vs : List (κ × Value)} (r : KV kvs vs) (k : κ) {y : V} {u : Value} (ry : RelV y u) :
    KV (kvs.map fun kv => if kv.1 = k then (kv.1, y) else kv) (vs.map fun kv => if kv.1 = k then (kv.1, u) else kv) := by
  unfold KV at r ⊢
  induction r with
  | nil => exact .nil
  | @cons p q ps qs h t ih =>
    rw [List.map_cons, List.map_cons]
    refine .cons ?_ ih
    obtain ⟨h1, h2⟩ := h
    by_cases e : p.1 = k
    · rw [if_pos e, if_pos (h1.symm.trans e)]; exact ⟨h1, ry⟩
    · rw [if_neg e, if_neg (fun z => e (h1.trans z))]; exact ⟨h1, h2⟩
theorem KV.put {kvs : List (κ × V)} {vs : List (κ × Value)} (r : KV kvs vs) (k : κ) {y : V} {u : Value} (ry : RelV y u) : KV (putK kvs k y) (stored vs k u) := by
  unfold putK stored
  rw [r.any k]
  by_cases e : (vs.any fun kv => decide (kv.1 = k)) = true
  · rw [if_pos e, if_pos e]; exact r.repl k ry
  · rw [if_neg e, if_neg e]; exact Paired.snoc r ⟨rfl, ry⟩
theorem KV.length {kvs : List (κ × V)} {vs : List (κ × Value)} (r : KV kvs vs) : kvs.length = vs.length := Paired.length r
end


/-! ### a tracked dict, its keys ints and texts or tuples of these -/
theorem kV_is {P : Program} {w : World} {k : Key} {u : Value} (r : RelV (kV k) u) : (mixKind P w).is k u = true := by
  cases k with
  | inl i => obtain ⟨t, e⟩ := (show ∃ t, u = Value.int i t from r); subst e; exact mixKind_int P w i t
  | inr x => obtain ⟨t, e⟩ := (show ∃ t, u = Value.str x t from r); subst e; exact mixKind_str P w x t
theorem items_are {P : Program} {w : World} : ∀ {ks : List Key} {us : List Value}, Vals (ks.map kV) us → ItemsAre (mixKind P w) ks us
  | [], _, r => by rw [List.map_nil] at r; cases r; exact .nil
  | k :: ks, _, r => by
    rw [List.map_cons] at r
    cases r with
    | cons h t => exact .cons (kV_is h) (items_are t)

/-- raw entries of a dict with tuple keys -/
abbrev KT (H : Hp) : List (List Key × V) → List (List Key × Addr × Value) → Prop := Paired fun p q => p.1 = q.1 ∧ H q.2.1 = some (.tup (p.1.map kV)) ∧ RelV p.2 q.2.2
theorem KT.val {H : Hp} {kvs : List (List Key × V)} {xs : List (List Key × Addr × Value)} (r : KT H kvs xs) (k : List Key) : RelO (valV kvs k) ((atKey xs k).map (·.2)) := by
  induction r with
  | nil => exact True.intro
  | @cons p q ps qs h t ih =>
    obtain ⟨h1, _, h2⟩ := h
    by_cases e : p.1 = k
    · have e' : q.1 = k := h1.symm.trans e
      have b : atKey (q :: qs) k = some q.2 := by simp [atKey, List.find?_cons, e']
      rw [valV_pos e, b]; exact h2
    · have e' : ¬ q.1 = k := fun z => e (h1.trans z)
      have b : atKey (q :: qs) k = atKey qs k := by simp [atKey, List.find?_cons, e']
      rw [valV_neg e, b]; exact ih
theorem KT.repl {H : Hp} {kvs : List (List Key × V)} {xs : List (List Key × Addr × Value)} (r : KT H kvs xs) (k : List Key) {y : V} {u : Value} (ry : RelV y u) :
    KT H (kvs.map fun kv => if kv.1 = k then (kv.1, y) else kv) (xs.map (putAt k u)) := by
  induction r with
  | nil => exact .nil
  | @cons p q ps qs h t ih =>
    rw [List.map_cons, List.map_cons]
    refine .cons ?_ ih
    obtain ⟨h1, h2, h3⟩ := h
    unfold putAt
    by_cases e : p.1 = k
    · rw [if_pos e, if_pos (h1.symm.trans e)]; exact ⟨h1, h2, ry⟩
    · rw [if_neg e, if_neg (fun z => e (h1.trans z))]; exact ⟨h1, h2, h3⟩
theorem KT.put {H : Hp} {kvs : List (List Key × V)} {xs : List (List Key × Addr × Value)} (r : KT H kvs xs) (k : List Key) {b : Addr} {y : V} {u : Value} (hb : H b = some (.tup (k.map kV))) (ry : RelV y u) :
    KT H (putK kvs k y) (storedH xs k b u) := by
  have e : (kvs.any fun kv => decide (kv.1 = k)) = (atKey xs k).isSome := by
    rw [valV_any, (r.val k).isSome_eq, Option.isSome_map]
  unfold putK storedH
  rw [e]
  by_cases q : (atKey xs k).isSome = true
  · rw [if_pos q, if_pos q]; exact r.repl k ry
  · rw [if_neg q, if_neg q]; exact Paired.snoc r ⟨rfl, hb, ry⟩
theorem KT.keeps {H H' : Hp} {kvs : List (List Key × V)} {xs : List (List Key × Addr × Value)} (r : KT H kvs xs) (ht : ∀ b ys, H b = some (.tup ys) → H' b = some (.tup ys)) : KT H' kvs xs :=
  Paired.mapP r fun _ _ z => ⟨z.1, ht _ _ z.2.1, z.2.2⟩

section
variable {P : Program} {w : World} {H : Hp} {h : Heap} {a : Addr}
theorem rd_of {u : HO} (ok : HOk P w H h) (e : Rd H a u) : ObjOk P w H h a u := e.ok ok
theorem dk_rd {kvs : List (Key × V)} (ok : HOk P w H h) (e : Rd H a (.dK kvs)) : kvs.length ≤ sizeLine ∧ (a == sysModules) = false ∧ ∃ vs, KV kvs vs ∧ h.DictOf (mixKind P w) a vs :=
  show ObjOk P w H h a (.dK kvs) from rd_of ok e
theorem dk_of {kvs : List (Key × V)} (ok : HOk P w H h) (e : H a = some (.dK kvs)) : kvs.length ≤ sizeLine ∧ (a == sysModules) = false ∧ ∃ vs, KV kvs vs ∧ h.DictOf (mixKind P w) a vs := dk_rd ok (.inl e)
/-- a tracked tuple of ints and texts is a key -/
theorem key_of {ks : List Key} (ok : HOk P w H h) (e : H a = some (.tup (ks.map kV))) : (tupleKind (mixKind P w)).is h ks a := by
  obtain ⟨_, its, r, o, h1, h2, n, h3⟩ := (show ObjOk P w H h a (.tup (ks.map kV)) from ok a _ e)
  exact ⟨o, its.toArray, n, h1, h2, h3, by simpa using items_are r⟩
theorem dt_rd {kvs : List (List Key × V)} (ok : HOk P w H h) (e : Rd H a (.dT kvs)) : kvs.length ≤ sizeLine ∧ (a == sysModules) = false ∧
    ∃ xs, KT H kvs xs ∧ h.DictOfH (tupleKind (mixKind P w)) a xs := by
  obtain ⟨z, y, xs, r, o, es, ep, h1, h2, h3, h4, h5⟩ := (show ObjOk P w H h a (.dT kvs) from rd_of ok e)
  refine ⟨z, y, xs, r, o, es, ep, h1, h2, h3, h4, fun x hx => ?_, h5⟩
  have all : ∀ {l : List (List Key × V)} {m : List (List Key × Addr × Value)}, KT H l m → ∀ x ∈ m, (tupleKind (mixKind P w)).is h x.1 x.2.1 := by
    intro l m q
    induction q with
    | nil => intro x hx; exact nomatch hx
    | @cons p q ps qs hq t ih =>
      intro x hx
      rcases List.mem_cons.mp hx with e | hx
      · subst e
        exact key_of ok (by rw [← hq.1]; exact hq.2.1)
      · exact ih x hx
  exact all r x hx
theorem dt_of {kvs : List (List Key × V)} (ok : HOk P w H h) (e : H a = some (.dT kvs)) : kvs.length ≤ sizeLine ∧ (a == sysModules) = false ∧
    ∃ xs, KT H kvs xs ∧ h.DictOfH (tupleKind (mixKind P w)) a xs := dt_rd ok (.inl e)
end

/-- what the dict at a holds at the key y -/
def DGet (H : Hp) (a : Addr) (y : V) (r : Option V) : Prop :=
  (∃ kvs k, Rd H a (.dK kvs) ∧ y = kV k ∧ r = valV kvs k) ∨ ∃ kvs k b, Rd H a (.dT kvs) ∧ y = .ref b ∧ H b = some (.tup (k.map kV)) ∧ r = valV kvs k
/-- the heap behind a[y] = v -/
def DPut (H : Hp) (a : Addr) (y v : V) (H' : Hp) : Prop :=
  (∃ kvs k, H a = some (.dK kvs) ∧ y = kV k ∧ kvs.length < sizeLine ∧ H' = upd H a (.dK (putK kvs k v))) ∨
  ∃ kvs k b, H a = some (.dT kvs) ∧ y = .ref b ∧ H b = some (.tup (k.map kV)) ∧ kvs.length < sizeLine ∧ H' = upd H a (.dT (putK kvs k v))
theorem DGet.t {H : Hp} {a b : Addr} {kvs : List (List Key × V)} {k : List Key} (e : H a = some (.dT kvs)) (eb : H b = some (.tup (k.map kV))) : DGet H a (.ref b) (valV kvs k) := .inr ⟨kvs, k, b, .inl e, rfl, eb, rfl⟩
theorem DPut.k {H : Hp} {a : Addr} {kvs : List (Key × V)} {k : Key} {v : V} (e : H a = some (.dK kvs)) (hl : kvs.length < sizeLine) : DPut H a (kV k) v (upd H a (.dK (putK kvs k v))) := .inl ⟨kvs, k, e, rfl, hl, rfl⟩
theorem DPut.t {H : Hp} {a b : Addr} {kvs : List (List Key × V)} {k : List Key} {v : V} (e : H a = some (.dT kvs)) (eb : H b = some (.tup (k.map kV))) (hl : kvs.length < sizeLine) :
    DPut H a (.ref b) v (upd H a (.dT (putK kvs k v))) := .inr ⟨kvs, k, b, e, rfl, eb, hl, rfl⟩


section
variable {X : Cx} {pins : List (Addr × Obj)} {σ : St} {H : Hp} {s : Shared} {a : Addr} {y v : V} {u r : Value} {o : Option V} {A : Around} {E : Value → Shared → Prop}

theorem Inv.big (I : Inv X pins σ H s) : sysModules < s.heap.objs.size := by
  have h : mainGlobals < s.heap.objs.size := (I.mod.glob.keeps I.bk).lt
  exact Nat.lt_trans (by decide) h

/-- y in d -/
theorem d_in {Q : Value → Shared → Prop} (hu : A.units + 1 < cLine) (I : Inv X pins σ H s) (g : DGet H a y o) (ry : RelV y u) (h : ∀ s', Inv X pins σ H s' → Q (.bool o.isSome) s') :
    wpAny (model X.prog X.w) A (compareOp .In u (.ref a)) Q E s := by
  rcases g with ⟨kvs, k, e, ey, l⟩ | ⟨kvs, k, b, e, ey, eb, l⟩
  · subst ey
    obtain ⟨z, hd, vs, rel, dd⟩ := dk_rd I.hok e
    refine wpAny_in_of (kV_is ry) hd dd.mapOf ?_
    rw [← (rel.val k).isSome_eq, ← l]
    exact h _ (I.tok _)
  · subst ey
    cases (show u = Value.ref b from ry)
    obtain ⟨z, hd, xs, rel, dd⟩ := dt_rd I.hok e
    refine wpAny_in_heap (tupleKind_room_in1 hu) (key_of I.hok eb) hd dd ?_
    have q := (rel.val k).isSome_eq
    rw [Option.isSome_map] at q
    rw [← q, ← l]
    exact h _ (I.tok _)
theorem d_notIn {Q : Value → Shared → Prop} (hu : A.units + 1 < cLine) (I : Inv X pins σ H s) (g : DGet H a y o) (ry : RelV y u) (h : ∀ s', Inv X pins σ H s' → Q (.bool (!o.isSome)) s') :
    wpAny (model X.prog X.w) A (compareOp .NotIn u (.ref a)) Q E s := by
  rcases g with ⟨kvs, k, e, ey, l⟩ | ⟨kvs, k, b, e, ey, eb, l⟩
  · subst ey
    obtain ⟨z, hd, vs, rel, dd⟩ := dk_rd I.hok e
    refine wpAny_notIn_of (kV_is ry) hd dd.mapOf ?_
    rw [← (rel.val k).isSome_eq, ← l]
    exact h _ (I.tok _)
  · subst ey
    cases (show u = Value.ref b from ry)
    obtain ⟨z, hd, xs, rel, dd⟩ := dt_rd I.hok e
    refine wpAny_notIn_heap (tupleKind_room_in1 hu) (key_of I.hok eb) hd dd ?_
    have q := (rel.val k).isSome_eq
    rw [Option.isSome_map] at q
    rw [← q, ← l]
    exact h _ (I.tok _)
/-- a dict's object is replaced -/
theorem d_write {h' : Heap} {t' : Nat} {ob : HO} (I : Inv X pins σ H s) (mu : Mut (H a)) (hs : Heap.SameBut a s.heap h') (he : ∃ q, h'.get? a = some q) (new : ObjOk X.prog X.w (upd H a ob) h' a ob) :
    Inv X pins σ (upd H a ob) { s with heap := h', toks := t' } :=
  I.write (x := a) (e := a) mu (.inl rfl) (fun b q hb z => (hs.2 b hb).trans z) he new
theorem dk_new {P : Program} {w : World} {H' : Hp} {h' : Heap} {kvs : List (Key × V)} {vs : List (Key × Value)} (z : kvs.length ≤ sizeLine) (hd : (a == sysModules) = false) (rel : KV kvs vs) (dd : h'.DictOf (mixKind P w) a vs) :
    ObjOk P w H' h' a (.dK kvs) := ⟨z, hd, vs, rel, dd⟩
/-- d[y] = v -/
theorem d_setItem {H' : Hp} {Q : Unit → Shared → Prop} (hu : A.units + 1 < cLine) (I : Inv X pins σ H s) (g : DPut H a y v H') (ry : RelV y u) (rv : RelV v r) (h : ∀ s', Inv X pins σ H' s' → Q () s') :
    wpAny (model X.prog X.w) A (setItem (.ref a) u r) Q E s := by
  rcases g with ⟨kvs, k, e, ey, l, eH⟩ | ⟨kvs, k, b, e, ey, eb, l, eH⟩
  · subst ey eH
    obtain ⟨z, hd, vs, rel, dd⟩ := dk_of I.hok e
    have hz : vs.length ≤ sizeLine := by rw [← rel.length]; exact z
    have hl : (putK kvs k v).length ≤ sizeLine := by have := length_putK kvs k v; omega
    refine wpAny_setItem_pairs (hsz := hz) (kV_is ry) dd fun h' dd' hs => h _ ?_
    have he : ∃ q, h'.get? a = some q := let ⟨q, _, _, hq, _⟩ := dd'; ⟨q, hq⟩
    exact d_write I (by rw [e]; exact True.intro) hs he (dk_new hl hd (rel.put k rv) dd')
  · subst ey eH
    cases (show u = Value.ref b from ry)
    obtain ⟨z, hd, xs, rel, dd⟩ := dt_of I.hok e
    have hz : xs.length ≤ sizeLine := by rw [← Paired.length rel]; exact z
    have hl : (putK kvs k v).length ≤ sizeLine := by have := length_putK kvs k v; omega
    refine wpAny_setItem_heap (hsz := hz) (tupleKind_room_in1 hu) (key_of I.hok eb) dd fun h' dd' hs => h _ ?_
    obtain ⟨q, es, ep, hq, h2, h3, h4, _, h5⟩ := dd'
    refine d_write I (by rw [e]; exact True.intro) hs ⟨q, hq⟩ ⟨hl, hd, _, (rel.put k eb rv).keeps fun c ys ec => ?_, q, es, ep, hq, h2, h3, h4, h5⟩
    rw [upd_ne (ne_of ec e (fun z => nomatch z))]
    exact ec
end

section
variable {X : Cx} {pins : List (Addr × Obj)} {σ : St} {H : Hp} {s : Shared} {a : Addr} {kvs : List (Key × V)} {k : Key} {u : Value} {A : Around} {E : Value → Shared → Prop}
end


/-! ### readings and rules -/


/-- y in d, y not in d -/
def tDIn (ty td : TE) : TE := fun σ H Q => ty σ H fun y H1 => td σ H1 fun x H2 => ∃ a o, x = .ref a ∧ DGet H2 a y o ∧ Q (.bl o.isSome) H2
def tDNotIn (ty td : TE) : TE := fun σ H Q => ty σ H fun y H1 => td σ H1 fun x H2 => ∃ a o, x = .ref a ∧ DGet H2 a y o ∧ Q (.bl (!o.isSome)) H2
/-- d[y] = v -/
def sDPut (td ty tv : TE) : TS := fun D σ H => tv σ H fun v H1 => td σ H1 fun x H2 => ty σ H2 fun y H3 => ∃ a H4, x = .ref a ∧ DPut H3 a y v H4 ∧ D.nx σ H4

section
variable {X : Cx} {o i e value : Expr} {pos pos' tpos : Pos} {td ty tv : TE}
theorem pc_din (hu : X.A.units + 1 < cLine) (hi : PE X i ty) (ho : PE X o td) : PC X .In i o (tDIn ty td) := by
  intro pins s σ H Q I h
  refine thn (hi pins s σ H _ I h) fun iv s1 ⟨y, H1, I1, ry, q1⟩ => thn (ho pins s1 σ H1 _ I1 q1) fun u s2 ⟨x, H2, I2, rx, a, ov, ex, g, q2⟩ => ?_
  subst ex
  obtain rfl : u = Value.ref a := rx
  exact d_in hu I2 g ry fun s3 I3 => ⟨.bl ov.isSome, H2, I3, rfl, q2⟩
theorem pc_dnotin (hu : X.A.units + 1 < cLine) (hi : PE X i ty) (ho : PE X o td) : PC X .NotIn i o (tDNotIn ty td) := by
  intro pins s σ H Q I h
  refine thn (hi pins s σ H _ I h) fun iv s1 ⟨y, H1, I1, ry, q1⟩ => thn (ho pins s1 σ H1 _ I1 q1) fun u s2 ⟨x, H2, I2, rx, a, ov, ex, g, q2⟩ => ?_
  subst ex
  obtain rfl : u = Value.ref a := rx
  exact d_notIn hu I2 g ry fun s3 I3 => ⟨.bl (!ov.isSome), H2, I3, rfl, q2⟩
theorem ps_dput (hu : X.A.units + 1 < cLine) (ho : PE X o td) (hi : PE X i ty) (hv : PE X value tv) (hs : swapsWith value (some (.Subscript o i pos')) pos.line X.env = pure false) :
    PS X (.Assign [.Subscript o i pos'] value pos) (sDPut td ty tv) := by
  intro pins s σ H D I h
  refine wpAny_Assign_Subscript (thn (hv pins s σ H _ I h) fun r s1 ⟨v, H1, I1, rv, q1⟩ => thn (ho pins s1 σ H1 _ I1 q1) fun u s2 ⟨x, H2, I2, rx, q2⟩ => thn (hi pins s2 σ H2 _ I2 q2) fun iv s3 ⟨y, H3, I3, ry, a, H4, ex, g, q3⟩ => ?_) hs
  subst ex
  obtain rfl : u = Value.ref a := rx
  exact d_setItem hu I3 g ry rv fun s4 I4 => ⟨σ, H4, I4, q3⟩
end


/-! ### displays -/
theorem dk_empty {P : Program} {w : World} {H : Hp} (h : Heap) (hb : sysModules < h.objs.size) : ObjOk P w H (h.push { cls := .type "dict", data := .dict #[] }) h.objs.size (.dK []) :=
  ⟨Nat.zero_le _, beq_eq_false_iff_ne.mpr (Ne.symm (Nat.ne_of_lt hb)), [], .nil, Heap.DictOf.new h⟩
theorem dt_empty {P : Program} {w : World} {H : Hp} (h : Heap) (hb : sysModules < h.objs.size) : ObjOk P w H (h.push { cls := .type "dict", data := .dict #[] }) h.objs.size (.dT []) :=
  ⟨Nat.zero_le _, beq_eq_false_iff_ne.mpr (Ne.symm (Nat.ne_of_lt hb)), [], .nil, _, #[], 0, Heap.get?_push_size _ rfl, ⟨rfl, rfl, rfl⟩, rfl, rfl, List.nodup_nil⟩
/-- {}, to be a dict of the kind that is wanted -/
def tDNewK : TE := fun _ H Q => ∀ p, H p = none → Q (.ref p) (upd H p (.dK []))
section
variable {X : Cx} {pos : Pos}
theorem pe_dnewK : PE X (.Dict [] [] pos) tDNewK := fun pins s σ H Q I h =>
  wpAny_Dict_empty ⟨.ref s.heap.objs.size, _, I.laid (a := s.heap.objs.size) (o := .dK []) (t' := s.toks) (fun _ _ q => Heap.get?_push_of_some _ q) (Nat.le_refl _) (dk_empty s.heap I.big), rfl, h _ (I.hok.fresh (Nat.le_refl _))⟩
end




/-! ### methods -/
/-- a method call o.m(e) of a built-in, with one argument: what must be seen of the text -/
structure M1 (X : Cx) (o : Expr) (m : Str) (apos : Pos) (e : Expr) (cpos : Pos) : Prop where
  base : attributeBase o m X.env (eval o X.env) = eval o X.env
  few : ((backTo cpos (starEach [e] X.env)).all (fun x => !x.1) && (backToKw cpos (keywordEach [] X.env)).all (fun x => x.1.isSome)
    && decide (([e] : List Expr).length + ([] : List Keyword).length + (if ([] : List Keyword).isEmpty then 0 else 1) < 30)) = true
  line : (apos.endLine == cpos.line) = true
  trees : backTo cpos (starEach [e] X.env) = [(false, eval e X.env)]
structure M2 (X : Cx) (o : Expr) (m : Str) (apos : Pos) (e f : Expr) (cpos : Pos) : Prop where
  base : attributeBase o m X.env (eval o X.env) = eval o X.env
  few : ((backTo cpos (starEach [e, f] X.env)).all (fun x => !x.1) && (backToKw cpos (keywordEach [] X.env)).all (fun x => x.1.isSome)
    && decide (([e, f] : List Expr).length + ([] : List Keyword).length + (if ([] : List Keyword).isEmpty then 0 else 1) < 30)) = true
  line : (apos.endLine == cpos.line) = true
  trees : backTo cpos (starEach [e, f] X.env) = [(false, eval e X.env), (false, eval f X.env)]


section
variable {X : Cx} {pins : List (Addr × Obj)} {σ : St} {H : Hp} {s : Shared} {a : Addr} {y d : V} {u r : Value} {o : Option V} {A : Around} {E : Value → Shared → Prop}
end

section
variable {X : Cx} {o e f : Expr} {apos cpos : Pos} {td ty tx : TE}
end

/-! ### dict(d): a copy -/
section
variable {X : Cx} {pins : List (Addr × Obj)} {σ : St} {H : Hp} {s : Shared} {a : Addr} {kvs : List (Key × V)} {A : Around} {E : Value → Shared → Prop}
end


section
variable {X : Cx} {pins : List (Addr × Obj)} {σ : St} {H : Hp} {s : Shared} {a : Addr} {y : V} {u : Value} {A : Around} {E : Value → Shared → Prop}
end
end L2

namespace Att
open PySem PySem.W PySem.Calls PyProof.Rows

/-! ### the script -/
theorem ints_of_wellAll {P : Params} {h : Heap} : ∀ (ns : List Int) (vs : List Value), WellAll P h vs (ns.map WData.int) → IntsAre vs ns := by
  intro ns
  induction ns with
  | nil =>
    intro vs w
    rw [List.map_nil] at w
    cases w
    exact .nil
  | cons n ns ih =>
    intro vs w
    rw [List.map_cons] at w
    cases w with
    | cons a b =>
      cases a
      exact .cons _ _ (ih _ b)

theorem script_of {l : OpenLaw} {n : Nat} (hn : l.most = some n) {P : Params} {h : Heap} {args : List WData} {vals : List Value}
    (hpre : l.row.toRowW.claim.pre args = true) (hwl : WellAll P h vals args) :
    ∃ a vs ns, vals = [Value.ref a] ∧ args = [WData.list (ns.map WData.int)] ∧ h.get? a = some { cls := .type "list", data := .seq vs.toArray } ∧ IntsAre vs ns ∧ ns.length ≤ n := by
  have hsh : WShape.hasAll [] args [.list .int] = true := (pre_splitW hpre).1
  have hc : l.pre.holds [] { args := args } = true := (pre_splitW hpre).2
  obtain ⟨d, r, rfl, h1, h2⟩ := hasAllW_cons hsh
  obtain rfl := hasAllW_nil h2
  obtain ⟨xs, rfl, h3⟩ := hasW_list h1
  obtain ⟨ns, rfl⟩ := items_int h3
  have hlen : ns.length ≤ n := by
    unfold OpenLaw.pre at hc
    have h4 : (WTm.not (.lt (.lit (.int (n : Int))) (.len (.arg 0)))).holds [] { args := [.list (ns.map .int)] } = true := by
      have h4 := (holds_andW hc).1
      rw [hn] at h4
      exact h4
    have h5 := condW_of h4 (w_not (w_lt w_lit (w_len_list (w_arg rfl))))
    rw [List.length_map] at h5
    refine Nat.le_of_not_lt fun q => ?_
    have q' : (n : Int) < ((ns.length : Nat) : Int) := by omega
    first
      | (rw [decide_eq_true q'] at h5; exact absurd h5 (by decide))
      | (simp at h5; omega)
  cases hwl with
  | cons w1 w2 =>
    cases w2
    cases w1 with
    | list ho hall => exact ⟨_, _, ns, rfl, rfl, ho, ints_of_wellAll ns _ hall, hlen⟩

theorem post_true (l : OpenLaw) (args : List WData) : l.row.toRowW.claim.post args (.bool true) args = true :=
  postW_of (r := l.row.toRowW) (X := (true == true))
    (show WShape.has [] (.bool true) .bool = true by first | rfl | decide | simp [WShape.has, WShape.arms, WShape.armsAll])
    (show (WTm.eq .res (.lit (.bool true))).value [] { args := args, res := some (.bool true), after := args } = some (.bool (true == true)) from w_eq_bool (w_res rfl) w_lit) rfl

/-! ### the attachment: holds_open's last premise (the goal 'hc' behind k_head) from a wpAny of the law's body -/

/-- the same from a codeAny of the CALL (for a layer whose function contracts speak of calls) -/
theorem attach_call {l : OpenLaw} {n : Nat} {q : Program} {loose : List Str} {XP : (Str → Option Value) → Heap → Prop} {YP : World → Heap → Prop} {d : DefRec}
    (hn : l.most = some n) (hdf : d.params.defaults = [])
    (call : ∀ (w : World) (s₀ s₁ : Shared) (mg mb : Str → Option Value) (fa : Addr) (o : Obj) (pm cd doc : Value) (a : Addr) (vs : List Value) (ns : List Int),
      Ground q loose [] XP w s₀ mg mb s₁.heap → YP w s₁.heap →
      s₁.heap.get? fa = some o → o.data = .func (docDef d.name d.params d.body d.scope pm cd doc) → s₁.heap.CodeRec cd d.name → mg d.name = some (.ref fa) →
      s₁.heap.get? a = some { cls := .type "list", data := .seq vs.toArray } → IntsAre vs ns → ns.length ≤ n → s₁.gens = #[] →
      codeAny (model l.prog w) callerA (.call (.ref fa) ⟨[.ref a], []⟩) (fun r s' => r = .ok (.ret (.bool true)) ∧ OldK s₁.heap s'.heap ∧ s'.os = s₁.os ∧ AllBare s'.gens) s₁) :
    WalkO q loose XP YP l.row.toRowW d [] (fun f vs => PySem.call f vs) := by
  intro w s₀ s₁ mg mb G Y fa o pm cd doc dV kV ho hd hcd hD hmg hg args vals as hpre hlay hrd hwl hlo
  obtain rfl : dV = .none := Dflts.none hD hdf
  obtain rfl : kV = .none := Dflts.noKw hD
  obtain ⟨a, vs, ns, rfl, rfl, hobj, hints, hlen⟩ := script_of hn hpre hwl
  refine enter_call (codeAny_mono (call w s₀ s₁ mg mb fa o pm cd doc a vs ns G Y ho (fd_plain hd) hcd hmg hobj hints hlen hg) fun r s' hq => ?_)
  obtain ⟨rfl, h2, h3, h4⟩ := hq
  exact ⟨.inl ⟨.bool true, .bool true, [], rfl, fun _ => rfl, .bool true, post_true l _, fun _ => ⟨List.Pairwise.nil, fun _ hm => (nomatch hm)⟩⟩, h2, h3, h4⟩


/-! ### rules over ANY heap (no ledger) from facts about the written part K: the library's own take a ledger (News) for what they write -/
section
variable {prog : Program} {w : World} {A : Around} {E : Value → Shared → Prop} {s : Shared} {K : Frag}





/-! the whole heap as the ledger: makes every rule that writes through a ledger a rule over any heap -/

end
end Att

namespace L2
open PySem PySem.Spec PyProof.Rows

theorem vals_ints : ∀ {vs : List Value} {ns : List Int}, IntsAre vs ns → Vals (ns.map V.int) vs
  | _, _, .nil => .nil
  | _, _, .cons n t h => .cons ⟨t, rfl⟩ (vals_ints h)

/-- nothing is tracked but the script, known to the object (or it is an object of the module) -/
def Only (H : Hp) : Prop := ∀ b, H b = none ∨ ∃ o xs, H b = some (.frz o (.lst xs))

/-- THE HEAD: the law's promise, at the heap behind the top. F, the promise of the law's def, may use that base is part of the heap (so K.In base, base.Ns mainGlobals mg stand in Mod) -/
theorem law_call {P : Program} {w : World} {K : PySem.W.Frag} {mg mb : Str → Option Value} {CX : CXT} {k : Nat} {fa a : Addr} {fd : FuncData} {x : Str} {sp : Sp} {s₁ : Shared} {vs : List Value} {ns : List Int}
    (KX : K.In s₁.heap) (hns : s₁.heap.Ns mainGlobals mg) (hb : s₁.heap.Ns builtinsNs mb) (hbb : ∀ x : Str, x ≠ "__name__" → mb x = bootBuiltins x) (hlim : s₁.heap.NoLimit) (hg : s₁.gens = #[])
    (ha : s₁.heap.get? a = some { cls := .type "list", data := .seq vs.toArray }) (hi : IntsAre vs ns) (hl : ns.length ≤ sizeLine) (hr : Room k callerA)
    (F : ∀ base : Heap, K.In base → base.Ns mainGlobals mg → FnOk P w K mg base CX k fa fd [x] sp) (hbind : ∀ (s : Shared) (u : Value), BindsTo s fd ⟨[u], []⟩ [(x, u)])
    (hsp : ∀ H : Hp, Only H → SqL K H a (ns.map V.int) → sp [.ref a] H (fun v _ => v = .bl true) fun _ _ _ => False)
    (hCX : ∀ H e s', CX [] H s₁ (fun _ _ _ => False) e s' → False) :
    codeAny (model P w) callerA (.call (.ref fa) ⟨[.ref a], []⟩) (fun r s' => r = .ok (.ret (.bool true)) ∧ OldK s₁.heap s'.heap ∧ s'.os = s₁.os ∧ AllBare s'.gens) s₁ := by
  have rv := vals_ints hi
  have lenV := hi.length
  -- from an abstract heap in which nothing but the script may be tracked
  have core : ∀ H : Hp, Only H → SqL K H a (ns.map V.int) → HOk P w H s₁.heap → (∀ b, H b ≠ none → b = a) → (H a ≠ none → K.lookup a = none) →
      codeAny (model P w) callerA (.call (.ref fa) ⟨[.ref a], []⟩) (fun r s' => r = .ok (.ret (.bool true)) ∧ OldK s₁.heap s'.heap ∧ s'.os = s₁.os ∧ AllBare s'.gens) s₁ := by
    intro H hO hS hok hA hK
    have base_of : ∀ {b : Addr} {o : Obj}, s₁.heap.get? b = some o → H b = none → (hidT s₁.heap H).get? b = some o := fun e n => hidT_get e n
    have noA : ∀ {b : Addr} {o : Obj} {es : Array DictEntry} {ep : Nat}, s₁.heap.get? b = some o → o.data = .dict es ep → H b = none := fun {b o es ep} e d => by
      cases q : H b with
      | none => rfl
      | some u =>
        have e' : b = a := hA b (by rw [q]; simp)
        subst e'
        rw [ha] at e; cases e
        have d' : Data.seq vs.toArray _ = Data.dict es ep := d
        cases d'
    have nsK : ∀ {b : Addr} {m : Str → Option Value}, s₁.heap.Ns b m → (hidT s₁.heap H).Ns b m := fun {b m} ⟨o, es, ep, e, d, r⟩ => ⟨o, es, ep, base_of e (noA e d), d, r⟩
    have hKb : K.In (hidT s₁.heap H) := fun b o e => base_of (KX b o e) (by
      cases q : H b with
      | none => rfl
      | some u =>
        have e' : b = a := hA b (by rw [q]; simp)
        subst e'
        rw [hK (by rw [q]; simp)] at e; cases e)
    have hM : Mod K mg (hidT s₁.heap H) := ⟨hKb, nsK hns, ⟨mb, nsK hb, hbb⟩, let ⟨mc, h1, h2⟩ := hlim; ⟨mc, nsK h1, h2⟩⟩
    have e0 : Env0 P w K mg (hidT s₁.heap H) callerA [] s₁ H := ⟨rfl, hM, fun b o e => of_hidT e, Nat.le_of_eq (hidT_size _ _), trivial, fun b hb => absurd (show b ∈ ([] : List Addr) from hb) (by simp), hok, .of_eq hg⟩
    refine codeAny_mono ((F _ hKb (nsK hns)).run callerA [] s₁ H ⟨[.ref a], []⟩ [.ref a] [.ref a] _ _ hr e0 (hbind s₁ (.ref a)) (.cons rfl .nil) (hsp H hO hS)) fun r s' h => ?_
    cases r with
    | error e => exact (hCX H e s' h).elim
    | ok fl =>
      cases fl with
      | next => exact False.elim h
      | brk => exact False.elim h
      | cont => exact False.elim h
      | ret u =>
        obtain ⟨v, H', os, bare, un, hok', r', q⟩ := h
        have q' : v = .bl true := q
        subst q'
        obtain rfl : u = Value.bool true := r'
        refine ⟨rfl, OldK.of_keep fun b o e => ?_, os, bare⟩
        cases q : H b with
        | none => exact un.keep b o e q (by intro z; exact absurd (show b ∈ ([] : List Addr) from z) (by simp)) (by simp)
        | some u =>
          rcases hO b with z | ⟨ob, xs, z⟩
          · rw [q] at z; cases z
          · have z2 := un.frzs b ob _ z
            obtain ⟨e1, _⟩ := hok b _ z
            obtain ⟨e2, _⟩ := hok' b _ z2
            rw [e] at e1; cases e1
            exact e2
  cases hk : K.lookup a with
  | some o =>
    -- the script is one of the module's own objects
    have e := KX a o hk
    rw [ha] at e
    cases e
    refine core (fun _ => none) (fun _ => .inl rfl) (.inr ⟨_, vs.toArray, _, hk, rfl, rfl, rfl, by rw [List.size_toArray, lenV]; exact hl, by simpa using rv⟩) (fun b u z => by have z' : (none : Option HO) = some u := z; cases z') (fun b z => absurd rfl z) fun z => absurd rfl z
  | none =>
    refine core (fun b => if b = a then some (.frz { cls := .type "list", data := .seq vs.toArray } (.lst (ns.map V.int))) else none) (fun b => ?_) (.inl (.inr ⟨{ cls := .type "list", data := .seq vs.toArray }, if_pos rfl⟩)) (fun b u z => ?_) (fun b z => ?_) fun _ => hk
    · by_cases hb : b = a
      · exact .inr ⟨_, _, if_pos hb⟩
      · exact .inl (if_neg hb)
    · by_cases hb : b = a
      · have z' := (if_pos hb).symm.trans z
        cases z'
        subst hb
        exact ⟨ha, by rw [List.length_map]; exact hl, vs, _, rv, ha⟩
      · have z' := (if_neg hb).symm.trans z
        cases z'
    · by_cases hb : b = a
      · exact hb
      · exact absurd (if_neg hb) z
end L2

namespace L2
open PySem PySem.Spec PyProof.Rows


/-- the goal that k_head leaves (case hc), from the law's promise. F gives the function object fd (K's own) once, then the promise over every base -/
theorem walk_of {l : PySem.W.OpenLaw} {n k : Nat} {q : Program} {loose : List Str} {XP : (Str → Option Value) → Heap → Prop} {YP : World → Heap → Prop} {d : DefRec} {K : Params → PySem.W.Frag} {CX : World → CXT} {sp : World → Sp} {x : Str}
    (hn : l.most = some n) (hn2 : n ≤ sizeLine) (hdf : d.params.defaults = []) (hr : Room k callerA)
    (hY : ∀ (w : World) (h : Heap), YP w h → (K w.params).In h)
    (F : ∀ (w : World) (mg : Str → Option Value) (fa : Addr) (h : Heap), (K w.params).In h → h.Ns mainGlobals mg → mg d.name = some (.ref fa) →
      ∃ fd : FuncData, (∀ (s : Shared) (u : Value), BindsTo s fd ⟨[u], []⟩ [(x, u)]) ∧
        ∀ base : Heap, (K w.params).In base → base.Ns mainGlobals mg → FnOk l.prog w (K w.params) mg base (CX w) k fa fd [x] (sp w))
    (hsp : ∀ (w : World) (H : Hp) (a : Addr) (ns : List Int), ns.length ≤ n → Only H → SqL (K w.params) H a (ns.map V.int) → sp w [.ref a] H (fun v _ => v = .bl true) fun _ _ _ => False)
    (hCX : ∀ (w : World) (H : Hp) (s : Shared) (e : Value) (s' : Shared), CX w [] H s (fun _ _ _ => False) e s' → False) :
    PySem.W.WalkO q loose XP YP l.row.toRowW d [] (fun f vs => PySem.call f vs) := by
  refine Att.attach_call hn hdf fun w s₀ s₁ mg mb fa o pm cd doc a vs ns G Y ho hd hcd hmg hobj hints hlen hg => ?_
  have KX := hY w _ Y
  obtain ⟨fd, hb, hF⟩ := F w mg fa _ KX G.T.g hmg
  exact law_call KX G.T.g G.T.b G.T.builtins G.T.nolimit hg hobj hints (Nat.le_trans hlen hn2) hr hF hb (fun H hO hS => hsp w H a ns hlen hO hS) fun H e s' => hCX w H s₁ e s'
end L2

/- THE LAST THEOREM (shape; LID, My.* are yours):
   My.Adr: a structure of the addresses that your layer names (classes, functions); My.Txt K t: a structure (Prop) of the equations over K;
   My.txt_mk : {K} {implicit addresses ..} (e1 : nsIn K mainGlobals "law" = some (some (.ref f))) (e2 : K.lookup f = some ⟨oc, od, .func (fnOf "law" "law" params body scope dV kV doc pm an cdv ct), sl⟩) (e3 : codeIn K cdv "law" = true) .. : ∃ t, My.Txt K t

set_option maxHeartbeats 0 in
theorem PySem.Challenge.cw_LID_holds : PySem.Challenge.rw_LID.Holds := by
  w_on; o_law; k_head; (case hw => w_witness2)
  k_fill
  refine L2.walk_of (l := PySem.Challenge.rw_LID) (n := 63) (k := 40) (x := "script") (CX := fun w => ..) (sp := fun _ => My.sp_law) rfl (by decide) rfl ⟨rfl, by decide, by decide⟩ (fun w h Y => PySem.W.kIn_of Y) ?F ?S ?C
  case F =>
    intro w mg fa h KX G hmg
    have T : ∃ t, My.Txt (L2.KOf KX) t := by
      dsimp only [L2.KOf]                          -- K must stand as «<heap const> w.params» for k_is
      refine' My.txt_mk ?e1 ?e2 ?e3 ..
      (case e1 => PySem.W.k_is)                    -- in the order: a name -> its address -> its object -> its parts
      (case e2 => PySem.W.k_is)
      ..
    obtain ⟨t, T⟩ := T
    have e0 := hmg.symm.trans (PySem.W.mg_of KX G T.law)
    cases e0                                       -- fa is the law's own address
    exact ⟨_, fun s u => .of_eq rfl, fun base kb nb => My.law_fn T kb nb⟩     -- if «.of_eq rfl» comes too early: refine' ⟨_, ?b, fun base kb nb => My.law_fn T kb nb⟩; exact fun s u => .of_eq rfl
  case S => exact fun w H a ns hl hO hS => ..
  case C => exact ..
(the tactic k_is has no namespace: write k_is) -/

/-! SHORT WORDS over the layer: a def of the text, its body, what a loop and a test want. -/
namespace L2
open PySem PySem.Spec PyProof.Rows

/-! ### the text by places -/
/-- the j-th statement of a class's body -/
def inClass (s : Stmt) (j : Nat) : Stmt := match s with
  | .ClassDef _ _ _ body _ _ _ _ _ _ _ => body.getD j (.Pass ⟨0, 0, 0, 0⟩)
  | _ => .Pass ⟨0, 0, 0, 0⟩
def defArgs (s : Stmt) : Arguments := match s with
  | .FunctionDef _ a _ _ _ _ _ _ _ _ => a
  | _ => { posonlyargs := [], args := [], vararg := none, kwonlyargs := [], kw_defaults := [], kwarg := none, defaults := [] }
def defBody (s : Stmt) : List Stmt := match s with
  | .FunctionDef _ _ b _ _ _ _ _ _ _ => b
  | _ => []
def defScope (s : Stmt) : Scope := match s with
  | .FunctionDef _ _ _ _ _ _ sc _ _ _ => sc
  | _ => { kind := .function, names := [], isGenerator := false, isCoroutine := false }

/-! ### no exception leaves a def -/
abbrev CX0 : CXT := fun _ _ _ _ _ _ => False
abbrev E0 : XK := fun _ _ _ => False
theorem pass0 {X : Cx} : Passes CX0 X E0 := fun _ _ _ _ _ _ _ h => h.elim

/-! ### a def (or method) of the text as it stands behind the top -/
structure Fun (K : PySem.W.Frag) (x qual : Str) (st : Stmt) (f : Addr) (fd : FuncData) : Prop where
  ex : ∃ (oc : Value) (od : Option Addr) (kV doc pm : Value) (an : Option Addr) (cdv ct : Value) (osl : Array (Option Value)),
    fd = PySem.W.fnOf x qual (defArgs st) (defBody st) (defScope st) .none kV doc pm an cdv ct ∧ K.lookup f = some ⟨oc, od, .func fd, osl⟩ ∧ PySem.W.codeIn K cdv qual = true
  kp : PySem.W.keepIn K (.ref f) = true
section
variable {P : Program} {w : World} {K : PySem.W.Frag} {mg : Str → Option Value} {base : Heap}
/-- THE RULE for a def: its body as a term of rules, and the reading of that term -/
theorem Fun.ok {x qual : Str} {st : Stmt} {f : Addr} {fd : FuncData} {N ps : List Str} {k : Nat} {sp : Sp} (F : Fun K x qual st f fd) (S : FnScope N ps (defScope st)) (len : ∀ vs H Q E, sp vs H Q E → vs.length = ps.length)
    (hbody : ∀ (cdv : Value) (A : Around) (outer : List Env) (s : Shared) (H : Hp) (vs : List V) (Q : VK) (E : XK), Room k (A.deeper (envOfC qual (defScope st) s.heap.objs.size f cdv)) → sp vs H Q E →
      ∃ t, PSs (cxOf CX0 P w K mg base N qual (defScope st) f cdv A outer s H E).nox (defBody st) t ∧ t { nx := fun _ H' => Q .non H', rt := Q } (start N vs) H) : FnOk P w K mg base CX0 (k + 1) f fd ps sp := by
  obtain ⟨oc, od, kV, doc, pm, an, cdv, ct, osl, rfl, lk, hcd⟩ := F.ex
  refine fn_of lk hcd S len fun A outer s H vs Q E hr hsp => ?_
  obtain ⟨t, h, q⟩ := hbody cdv A outer s H vs Q E hr hsp
  exact ⟨t, h.nox, q⟩
/-- how its arguments bind (no defaults): h is «fun _ _ _ _ _ _ us hl => match us, hl with | [_, _], _ => rfl», one _ a parameter -/
theorem Fun.binds {x qual : Str} {st : Stmt} {f : Addr} {fd : FuncData} {ps : List Str} (F : Fun K x qual st f fd)
    (h : ∀ (kV doc pm : Value) (an : Option Addr) (cdv ct : Value) (us : List Value), us.length = ps.length → bindArgs (PySem.W.fnOf x qual (defArgs st) (defBody st) (defScope st) .none kV doc pm an cdv ct) ⟨us, []⟩ = pure (ps.zip us)) : Binds K fd ps [] := by
  obtain ⟨oc, od, kV, doc, pm, an, cdv, ct, osl, rfl, lk, hcd⟩ := F.ex
  exact .all (h kV doc pm an cdv ct)
theorem fun_mk {x qual : Str} {st : Stmt} {f : Addr} {oc : Value} {od an : Option Addr} {osl : Array (Option Value)} {kV doc pm cdv ct : Value} (l : K.lookup f = some ⟨oc, od, .func (PySem.W.fnOf x qual (defArgs st) (defBody st) (defScope st) .none kV doc pm an cdv ct), osl⟩)
    (c : PySem.W.codeIn K cdv qual = true) (k : PySem.W.keepIn K (.ref f) = true) : Fun K x qual st f (PySem.W.fnOf x qual (defArgs st) (defBody st) (defScope st) .none kV doc pm an cdv ct) := ⟨⟨oc, od, kV, doc, pm, an, cdv, ct, osl, rfl, l, c⟩, k⟩
end
theorem small1000 {n : Nat} (h : n ≤ 1000) : n < sizeLine := Nat.lt_of_le_of_lt h (by decide)

/-! ### expressions in short: the name that stands in the i-th slot -/
section
variable {X : Cx}
theorem pv (i : Nat) {x : Str} {pos : Pos} (hN : X.N[i]? = some x := by rfl) (hv : Vis X.env.scope x := by first | exact Or.inl rfl | exact Or.inr (Or.inl rfl) | exact Or.inr (Or.inr rfl)) (hd : (x == ("__debug__" : Str)) = false := by decide)
    (hcd : (x == ("__classdict__" : Str)) = false := by decide) : PE X (.Name x pos) (tVar i) := pe_var hN hv hd hcd
end

/-! ### tests -/
theorem iteF {A B : Prop} (h : B) : if false = true then A else B := by
  rw [if_neg Bool.false_ne_true]
  exact h
theorem iteT {A B : Prop} (h : A) : if true = true then A else B := by
  rw [if_pos rfl]
  exact h
theorem ite2 {c A B : Prop} [Decidable c] (h1 : c → A) (h2 : ¬ c → B) : if c then A else B := by
  by_cases h : c
  · rw [if_pos h]
    exact h1 h
  · rw [if_neg h]
    exact h2 h
theorem iteNS {c A B : Prop} [Decidable c] (hc : c) (h : B) : if (!decide c) = true then A else B := by
  rw [decide_eq_true hc]
  exact iteF h

/-! ### heaps -/
/-- all that was tracked is as it was -/
def Same (H H' : Hp) : Prop := ∀ b o, H b = some o → H' b = some o
theorem Same.refl (H : Hp) : Same H H := fun _ _ h => h
theorem Same.trans {H H1 H2 : Hp} (a : Same H H1) (b : Same H1 H2) : Same H H2 := fun c o h => b c o (a c o h)
theorem Same.free {H H' : Hp} (e : Same H H') {l : Addr} (h : H' l = Option.none) : H l = Option.none := by
  cases q : H l with
  | none => rfl
  | some o =>
    rw [e l o q] at h
    cases h
theorem Same.seq {K : PySem.W.Frag} {H H' : Hp} {a : Addr} {xs : List V} (e : Same H H') (h : SqL K H a xs) : SqL K H' a xs := by
  rcases h with (h | ⟨o, h⟩) | h
  · exact .inl (.inl (e _ _ h))
  · exact .inl (.inr ⟨o, e _ _ h⟩)
  · exact .inr h

/-! ### a dict's pairs: keys that differ -/
section
variable {κ : Type} [DecidableEq κ]
end
end L2

set_option maxHeartbeats 4000000
namespace L2
open PySem PySem.Spec PyProof.Rows

/-! ### comprehensions -/
/-- the context of a comprehension's block -/
def cxC (X : Cx) (scope : Scope) (cl : List (Str × Addr)) (C : Addr) (N' : List Str) (s : Shared) (H : Hp) (fp : List Addr) (E : Value → Shared → Prop) : Cx where
  prog := X.prog
  w := X.w
  K := X.K
  mg := X.mg
  base := X.base
  A := X.A
  N := N'
  s₀ := s
  H₀ := H
  env := compEnvC scope cl C X.env
  outer := X.stack
  stack := X.stack
  ex := fp
  fn := fun _ => false
  calm := X.calm
  pn := []
  xe := E

theorem forIn_cells {env : Env} (f : Str × NameKind → List (Str × Addr) → Sem (ForInStep (List (Str × Addr)))) (hf : ∀ n k cs, f (n, k) cs = if (k == NameKind.free) = true then (cellOf env n >>= fun a => pure (ForInStep.yield ((n, a) :: cs))) else pure (ForInStep.yield cs)) :
    ∀ (l : List (Str × NameKind)) (cs : List (Str × Addr)), (∀ n, (n, NameKind.free) ∈ l → ∃ c, env.cells.lookup n = some c) → (∀ n c, cs.lookup n = some c → env.cells.lookup n = some c) →
      ∃ cl, forIn l cs f = (pure cl : Sem _) ∧ (∀ n c, cl.lookup n = some c → env.cells.lookup n = some c) ∧ (∀ n, (n, NameKind.free) ∈ l → ∃ c, cl.lookup n = some c) ∧ (∀ n c, cs.lookup n = some c → ∃ c', cl.lookup n = some c')
  | [], cs, _, hc => ⟨cs, rfl, hc, fun n hn => absurd hn (by simp), fun n c e => ⟨c, e⟩⟩
  | (n, k) :: l, cs, h, hc => by
    have hl : ∀ m, (m, NameKind.free) ∈ l → ∃ c, env.cells.lookup m = some c := fun m hm => h m (List.mem_cons_of_mem _ hm)
    by_cases hk : k = .free
    · subst hk
      obtain ⟨c, ec⟩ := h n List.mem_cons_self
      have hc' : ∀ m d, ((n, c) :: cs).lookup m = some d → env.cells.lookup m = some d := fun m d e => by
        rw [List.lookup_cons] at e
        by_cases q : m == n
        · rw [q] at e
          have := beq_iff_eq.mp q
          subst this
          rw [ec]; exact e
        · rw [Bool.eq_false_iff.mpr q] at e
          exact hc m d e
      obtain ⟨cl, e1, e2, e3, e4⟩ := forIn_cells f hf l ((n, c) :: cs) hl hc'
      refine ⟨cl, ?_, e2, fun m hm => ?_, fun m d e => ?_⟩
      · rw [List.forIn_cons, hf, if_pos (show (NameKind.free == NameKind.free) = true from rfl)]
        have : cellOf env n = pure c := by unfold cellOf; rw [ec]
        rw [this]
        exact e1
      · rcases List.mem_cons.mp hm with z | z
        · cases z
          exact e4 n c (by rw [List.lookup_cons]; simp)
        · exact e3 m z
      · by_cases q : m = n
        · subst q; exact e4 m c (by rw [List.lookup_cons]; simp)
        · exact e4 m d (by rw [List.lookup_cons, beq_eq_false_iff_ne.mpr q]; exact e)
    · obtain ⟨cl, e1, e2, e3, e4⟩ := forIn_cells f hf l cs hl hc
      refine ⟨cl, ?_, e2, fun m hm => ?_, e4⟩
      · rw [List.forIn_cons, hf, if_neg (by simpa using hk)]
        exact e1
      · rcases List.mem_cons.mp hm with z | z
        · cases z; exact absurd rfl hk
        · exact e3 m z
theorem closure_of {env : Env} {scope : Scope} (h : ∀ n, (n, NameKind.free) ∈ scope.names → ∃ c, env.cells.lookup n = some c) :
    ∃ cl, closureFor scope env = pure cl ∧ (∀ n c, cl.lookup n = some c → env.cells.lookup n = some c) ∧ (∀ n, (n, NameKind.free) ∈ scope.names → ∃ c, cl.lookup n = some c) := by
  obtain ⟨cl, e1, e2, e3, _⟩ := forIn_cells (env := env) (fun x __s => match x with
    | (name, kind) => if (kind == NameKind.free) = true then (do let a ← cellOf env name; pure (ForInStep.yield ((name, a) :: __s))) else pure (ForInStep.yield __s)) (fun n k cs => rfl) scope.names [] h (fun n c e => nomatch e)
  refine ⟨cl, ?_, e2, e3⟩
  unfold closureFor
  dsimp only
  rw [e1]
  all_goals rfl

/-- the tests of a clause -/
def PIf (X : Cx) (ifs : List Expr) (t : TT) : Prop :=
  ∀ (pins : List (Addr × Obj)) (s : Shared) (σ : St) (H : Hp) (Q : Bool → Hp → Prop), Inv X pins σ H s → t σ H Q →
    wpAny (model X.prog X.w) X.A (forIn ifs true fun c r => if r = true then do let ok ← isTrue c X.env (eval c X.env); pure (ForInStep.yield ok) else pure (ForInStep.yield r)) (TP X pins σ Q) X.xe s
def tYes : TT := fun _ H Q => Q true H
theorem tYes_of {σ : St} {H : Hp} {A B : Hp → Prop} (h : A H) : tYes σ H fun b H3 => if b = true then A H3 else B H3 := by
  show if true = true then A H else B H
  rw [if_pos rfl]
  exact h
theorem pif_nil {X : Cx} : PIf X [] tYes := fun _ _ _ H _ I h => wpAny_tests_nil ⟨H, I, h⟩
theorem pif_one {X : Cx} {c : Expr} {t : TT} (h : PT X c t) : PIf X [c] t := fun pins s σ H Q I hw => wpAny_tests_one (h pins s σ H Q I hw)

theorem compLoop_any {prog : Program} {w : World} {A : Around} {R : Result → Shared → Prop} {s : Shared} {elt target iter : Expr} {ifs : List Expr} {scope : Scope} {pos : Pos} {it acc : Value} {env : Env} (I : Nat → Shared → Prop)
    (turn : ∀ n s, I n s → wpAny (model prog w) A (pyNext it) (fun r s₁ => match r with
      | none => R (.ok .next) s₁
      | some v => wpAny (model prog w) A (letOwnedTupleGo target it v) (fun _ s₁' => wpAny (model prog w) A (assign target env v) (fun _ s₂ =>
          wpAny (model prog w) A (forIn ifs true fun c r => if r = true then do let ok ← isTrue c env (eval c env); pure (ForInStep.yield ok) else pure (ForInStep.yield r)) (fun ok s₃ =>
            if ok = true then wpAny (model prog w) A (eval elt env) (fun x s₄ =>
              wpAny (model prog w) A (call (.builtin "list.append") [acc, x]) (fun _ s₅ => ∃ m, m < n ∧ I m s₅) (notedBy (model prog w) A env fun e s' => R (.error e) s') s₄) (notedBy (model prog w) A env fun e s' => R (.error e) s') s₃
            else ∃ m, m < n ∧ I m s₃) (notedBy (model prog w) A env fun e s' => R (.error e) s') s₂) (notedBy (model prog w) A env fun e s' => R (.error e) s') s₁') (notedBy (model prog w) A env fun e s' => R (.error e) s') s₁) (notedBy (model prog w) A env fun e s' => R (.error e) s') s)
    (n : Nat) (h : I n s) :
    codeAny (model prog w) A (.compLoop (.ListComp elt [⟨target, iter, ifs, 0⟩] scope pos) 0 it acc env) R s := by
  refine codeAny_loop rfl I (fun n s hI => ?_) n h
  show wpAny _ A ((compTurn (.ListComp elt [⟨target, iter, ifs, 0⟩] scope pos) 0 it acc env).onRaise (fun x => do noteFrame x env; theTreesLotGoes x)) _ _ s
  refine wpAny_noted ?_
  rw [compTurn_list]
  refine wpAny_bind (wpAny_standAt (wpAny_bind (wpAny_mono (turn n s hI) (fun r s₁ h₁ => ?_) fun _ _ h' => h')))
  cases r with
  | none => exact wpAny_pure h₁
  | some v =>
    refine wpAny_bind (wpAny_mono h₁ (fun _ s₁' h₁' => ?_) fun _ _ h' => h')
    refine wpAny_bind (wpAny_mono h₁' (fun _ s₂ h₂ => wpAny_bind (wpAny_mono h₂ (fun ok s₃ h₃ => ?_) fun _ _ h' => h')) fun _ _ h' => h')
    cases ok with
    | false => exact wpAny_pure ⟨rfl, h₃⟩
    | true =>
      exact wpAny_bind (wpAny_bind (wpAny_mono h₃ (fun x s₄ h₄ => wpAny_bind (wpAny_mono h₄ (fun _ s₅ h₅ => wpAny_pure (wpAny_pure ⟨rfl, h₅⟩)) fun _ _ h' => h')) fun _ _ h' => h'))

theorem lookup_relabel_free {env : Env} : ∀ {names : List (Str × NameKind)} {x : Str}, names.lookup x = some .free →
    (names.map fun (n, k) => if (k == NameKind.free && env.scope.kind == .function && env.kindOf n == some .cell) then (n, NameKind.cell) else (n, k)).lookup x = some .cell ∨
    (names.map fun (n, k) => if (k == NameKind.free && env.scope.kind == .function && env.kindOf n == some .cell) then (n, NameKind.cell) else (n, k)).lookup x = some .free
  | [], _, h => by simp at h
  | (n, k) :: r, x, h => by
    have ih := @lookup_relabel_free env r x
    show List.lookup x ((if (k == NameKind.free && env.scope.kind == .function && env.kindOf n == some .cell) = true then (n, NameKind.cell) else (n, k)) :: _) = _ ∨ List.lookup x ((if (k == NameKind.free && env.scope.kind == .function && env.kindOf n == some .cell) = true then (n, NameKind.cell) else (n, k)) :: _) = _
    cases hx : x == n with
    | true =>
      simp only [List.lookup_cons, hx] at h
      cases h
      split <;> simp [List.lookup_cons, hx]
    | false =>
      simp only [List.lookup_cons, hx] at h
      by_cases hc : (k == NameKind.free && env.scope.kind == .function && env.kindOf n == some .cell) = true
      · rw [if_pos hc]; simp only [List.lookup_cons, hx]; exact ih h
      · rw [if_neg hc]; simp only [List.lookup_cons, hx]; exact ih h
theorem relabel_cf {env : Env} : ∀ {names : List (Str × NameKind)} {x : Str}, (∀ y ∈ names, y.2 ≠ .cell) →
    ((names.map fun (n, k) => if (k == NameKind.free && env.scope.kind == .function && env.kindOf n == some .cell) then (n, NameKind.cell) else (n, k)).lookup x = some .cell ∨
    (names.map fun (n, k) => if (k == NameKind.free && env.scope.kind == .function && env.kindOf n == some .cell) then (n, NameKind.cell) else (n, k)).lookup x = some .free) → (x, NameKind.free) ∈ names
  | [], _, _, h => by simp at h
  | (n, k) :: r, x, hn, h => by
    have ih := @relabel_cf env r x (fun y hy => hn y (List.mem_cons_of_mem _ hy))
    have h : List.lookup x ((if (k == NameKind.free && env.scope.kind == .function && env.kindOf n == some .cell) = true then (n, NameKind.cell) else (n, k)) :: _) = _ ∨ List.lookup x ((if (k == NameKind.free && env.scope.kind == .function && env.kindOf n == some .cell) = true then (n, NameKind.cell) else (n, k)) :: _) = _ := h
    cases hx : x == n with
    | true =>
      have e := beq_iff_eq.mp hx
      subst e
      have hk : k = .free := by
        by_cases hc : (k == NameKind.free && env.scope.kind == .function && env.kindOf x == some .cell) = true
        · simp only [Bool.and_eq_true, beq_iff_eq] at hc
          exact hc.1.1
        · rw [if_neg hc] at h
          simp only [List.lookup_cons, hx] at h
          rcases h with h | h
          · exact absurd (Option.some.inj h) (hn (x, k) List.mem_cons_self)
          · exact Option.some.inj h
      subst hk
      exact List.mem_cons_self
    | false =>
      refine List.mem_cons_of_mem _ (ih ?_)
      by_cases hc : (k == NameKind.free && env.scope.kind == .function && env.kindOf n == some .cell) = true
      · rw [if_pos hc] at h; simp only [List.lookup_cons, hx] at h; exact h
      · rw [if_neg hc] at h; simp only [List.lookup_cons, hx] at h; exact h

def capN (N : List Str) (js : List Nat) : List Str := js.map fun j => N.getD j Str.empty
def capSt (σ : St) (js : List Nat) : St := js.map fun j => (σ[j]?).getD none
/-- the names that the block takes from around it -/
def capOk (N : List Str) (osc sc : Scope) (js : List Nat) : Bool :=
  js.all fun j => decide (j < N.length) && (osc.names.lookup (N.getD j Str.empty) == some .cell || osc.names.lookup (N.getD j Str.empty) == some .free) && sc.names.lookup (N.getD j Str.empty) == some .free
def scOk (osc sc : Scope) (x : Str) : Bool :=
  sc.kind == .function && sc.names.all (fun y => y.2 != .cell) && sc.names.all (fun y => y.2 != .local || sc.names.lookup y.1 == some .local) && sc.names.lookup x == some .local &&
    sc.names.all (fun y => y.2 != .free || (osc.names.lookup y.1 == some .cell || osc.names.lookup y.1 == some .free))

def LcLoop (J : It) (cap : St) (tt : TT) (te : TE) (H : Hp) (P : List V → Hp → Prop) : Prop :=
  ∃ W : Nat → Nat → List V → Hp → Prop, (∃ m, W 0 m [] H) ∧ ∀ i m ys H, W i m ys H →
    (J.stop i H ∧ ys.length ≤ sizeLine ∧ P ys H) ∨ (J.go i H ∧ ys.length < sizeLine ∧ ∃ Nx : List V → Hp → Prop, (∀ ys' H', Nx ys' H' → ∃ m', m' < m ∧ W (i + 1) m' ys' H') ∧
      ∀ x H', J.yld i H x H' → tt (some x :: cap) H' fun b H3 => if b = true then te (some x :: cap) H3 fun v H4 => Nx (ys ++ [v]) H4 else Nx ys H3)


theorem Un.track {fs ex : List Addr} {H H1 : Hp} {h h1 : Heap} {D : Addr} {o : HO} (u : Un fs ex H H1 h h1) (hp : h.objs.size ≤ D) (hn : H1 D = none) : Un fs ex H (upd H1 D o) h h1 where
  keep := u.keep
  slot := u.slot
  free := fun b ob q n hx => by rw [upd_ne (Nat.ne_of_lt (Nat.lt_of_lt_of_le (Heap.lt_size q) hp))]; exact u.free b ob q n hx
  there := u.there
  tups := fun b xs q => by have z := u.tups b xs q; rw [upd_ne (ne_of_none z hn)]; exact z
  frzs := fun b ob xs q => by have z := u.frzs b ob xs q; rw [upd_ne (ne_of_none z hn)]; exact z
  tbls := fun b ps q => by obtain ⟨more, z⟩ := u.tbls b ps q; exact ⟨more, by rw [upd_ne (ne_of_none z hn)]; exact z⟩
theorem HOk.track {P : Program} {w : World} {H : Hp} {h : Heap} {D : Addr} {o : HO} (x : HOk P w H h) (hn : H D = none) (new : ObjOk P w (upd H D o) h D o) : HOk P w (upd H D o) h := fun b u e => by
  by_cases hb : b = D
  · subst hb; rw [upd_same] at e; cases e; exact new
  · rw [upd_ne hb] at e
    exact (x b u e).stay (fun c v _ q => q) (fun c q => by rw [upd_ne (ne_of_none q hn)]; exact q) fun c xs q => by rw [upd_ne (ne_of_none q hn)]; exact q
section
variable {X : Cx} {x : Str} {px : Pos} {iter elt : Expr} {ifs : List Expr} {scope : Scope} {pos : Pos} {js : List Nat} {N : List Str} {osc : Scope} {tt : TT} {te : TE} {cl : List (Str × Addr)}

theorem comp_core {RR : Value → Addr → Result → Shared → Prop} {E : Value → Shared → Prop} {pins : List (Addr × Obj)} {σ : St} {H2 : Hp} {s2 : Shared} {it : Addr} {fp : List Addr} {tn : Nat → Heap → Prop} {J : It} {P : List V → Hp → Prop}
    (hN : X.N = N) (hsc : X.env.scope = osc) (hcap : capOk N osc scope js = true) (hs1 : scOk osc scope x = true) (hnd : (x :: capN N js).Nodup) (hc : X.calm = true)
    (hin : ∀ C s H fp E, PIf (cxC X scope cl C (x :: capN N js) s H fp E) ifs tt ∧ PE (cxC X scope cl C (x :: capN N js) s H fp E) elt te)
    (I2 : Inv X pins σ H2 s2) (T : Turn X.prog X.w X.K (.Name x px) J fp it tn) (st : tn 0 s2.heap) (f2 : ∀ b ∈ fp, FpOk X pins H2 b)
    (cl1 : ∀ n c, cl.lookup n = some c → X.env.cells.lookup n = some c) (cl2 : ∀ n, (n, NameKind.free) ∈ scope.names → ∃ c, cl.lookup n = some c)
    (h : LcLoop J (capSt σ js) tt te H2 P)
    (hRR : ∀ D C ys H' s', P ys H' → H' D = none → Inv X pins σ (upd H' D (.lst ys)) s' → (∃ m, s'.heap.Ns C m) → C ≠ X.env.locals → X.s₀.heap.objs.size ≤ C → (∀ y c, X.env.cells.lookup y = some c → c ≠ C) → (∀ p ∈ X.pn ++ pins, p.1 ≠ C) →
      (upd H' D (.lst ys)) C = none → RR (.ref D) C (.ok .next) s') :
    wpAny (model X.prog X.w) X.A (newList []) (fun acc s₃ => wpAny (model X.prog X.w) X.A (newFunctionEnv scope X.env.globals cl [] X.env.qual none .none (some X.env)) (fun cenv s₄ =>
      codeAny (model X.prog X.w) X.A (.compStart (.ListComp elt [⟨.Name x px, iter, ifs, 0⟩] scope pos) 0 (.ref it) acc { cenv with scope := relabel scope X.env }) (RR acc cenv.locals) s₄) E s₃) E s2 := by
  unfold scOk at hs1
  simp only [Bool.and_eq_true, beq_iff_eq, List.all_eq_true] at hs1
  obtain ⟨⟨⟨⟨hkind, hcell0⟩, hnames0⟩, hxl⟩, hfr0⟩ := hs1
  have hcell : ∀ y ∈ scope.names, y.2 ≠ .cell := fun y hy e => by
    have := hcell0 y hy
    rw [e] at this
    simp at this
  refine wpAny_newObj_type (wpAny_newFunctionEnv hcell (by intro y hy; simp at hy) (fun h₁ hns₁ hsb₁ => ?_) hkind)
  dsimp only at hns₁ hsb₁ ⊢
  generalize hHp : s2.heap.push { cls := .type "list", dict := none, data := .seq ([] : List Value).toArray } = Hh at hns₁ hsb₁ ⊢
  have hC : Hh.objs.size = s2.heap.objs.size + 1 := by rw [← hHp, Heap.size_push]
  generalize hD : s2.heap.objs.size = D at hC ⊢
  generalize hCC : Hh.objs.size = C at hC hns₁ hsb₁ ⊢
  have hDC : D ≠ C := by omega
  have below : ∀ b o, s2.heap.get? b = some o → b < D := fun b o e => by rw [← hD]; exact Heap.lt_size e
  have old : ∀ b o, s2.heap.get? b = some o → h₁.get? b = some o := fun b o e =>
    hsb₁.extBut b o (Nat.ne_of_lt (by rw [hC]; exact Nat.lt_succ_of_lt (below b o e))) (Heap.get?_push_of_some _ (by rw [← hHp]; exact Heap.get?_push_of_some _ e))
  have hacc : h₁.get? D = some { cls := .type "list", data := .seq ([] : List Value).toArray } :=
    hsb₁.extBut D _ hDC (Heap.get?_push_of_some _ (by rw [← hHp, ← hD]; exact Heap.get?_push_size _ rfl))
  have fpD : ∀ b ∈ fp, b < D := fun b hb => by
    obtain ⟨o, e, _⟩ := T.obj _ _ st b hb
    exact below b o e
  have ltC : ∀ b : Addr, b < D → b ≠ C := fun b hb => Nat.ne_of_lt (by rw [hC]; exact Nat.lt_succ_of_lt hb)
  have hLt : X.env.locals < D := by rw [← hD]; exact I2.lt
  have cellLt : ∀ y c, X.env.cells.lookup y = some c → c < D := fun y c e => by
    obtain ⟨v, q⟩ := I2.cell y c e
    rw [← hD]; exact q.lt
  have frLt : ∀ b, b ∈ frs X.stack → b < D := fun b hb => by
    obtain ⟨_, o, ho, _⟩ := I2.stack.mem hb
    exact below b o ho
  let E' : Value → Shared → Prop := notedBy (model X.prog X.w) X.A (compEnvC scope cl C X.env) (fun e s' => RR (.ref D) C (.error e) s')
  let X' : Cx := cxC X scope cl C (x :: capN N js) s2 H2 fp E'
  have hok : X'.Ok := {
      mod := I2.ok.mod
      kind := hkind
      glob := I2.ok.glob
      blt := I2.ok.blt
      above := by show s2.heap.objs.size ≤ C; omega
      inj := fun a b c e1 e2 => I2.ok.inj a b c (cl1 _ _ e1) (cl1 _ _ e2)
      has := fun y hy => cl2 y (relabel_cf hcell hy)
      cab := fun _ _ e => nomatch e
      hd := I2.ok.hd
      frames := I2.ok.frames
      stk := .inl rfl
      exf := fun b hb => ⟨ltC b (fpD b hb), fun y c e => (f2 b hb).2.2.2.2.1 y c (cl1 _ _ e)⟩
      bs := I2.bs
      bsz := Nat.le_trans I2.ok.bsz I2.sz
      noex := fun b o e hb => by
        rcases (f2 b hb).2.2.2.1 with z | z
        · exact I2.ok.noex b o e z
        · have := Nat.lt_of_lt_of_le (Heap.lt_size e) I2.ok.bsz
          omega
      exfs := fun b hb z => by
        rcases List.mem_cons.mp (I2.stkSub b z) with e | e
        · exact (f2 b hb).2.1 e
        · exact (f2 b hb).2.2.1 e
      funs := I2.stack
      frf := I2.stkFree }
  have hl0 : (none :: capSt σ js : St).length = X'.N.length := by
    show _ = (x :: capN N js).length
    simp [capSt, capN]
  have nC2 : H2 C = none := I2.hok.fresh (by omega)
  have nD2 : H2 D = none := I2.hok.fresh (by omega)
  have I0 : Inv X' [] (none :: capSt σ js) H2 { s2 with heap := h₁, toks := s2.toks + ([] : List (Str × Value)).length } := by
    refine ⟨hok, rfl, I2.bare, Un.kept old, ⟨_, hns₁, fun i y v h1 h2 h3 => ?_⟩, fun y c e => ?_, nC2, fun y c e => I2.freeC y c (cl1 y c e), fun p hp => absurd (show p ∈ ([] : List (Addr × Obj)) from hp) (by simp), I2.hok.kept old, hl0⟩
    · cases i with
      | zero => simp at h2
      | succ i =>
        have h1' : (capN N js)[i]? = some y := by
          have z : (x :: capN N js)[i + 1]? = some y := h1
          simpa using z
        have h2' : (capSt σ js)[i]? = some (some v) := by simpa using h2
        unfold capN at h1'
        unfold capSt at h2'
        rw [List.getElem?_map] at h1' h2'
        cases ej : js[i]? with
        | none => rw [ej] at h1'; cases h1'
        | some j =>
          rw [ej] at h1' h2'
          have e1 : N.getD j Str.empty = y := Option.some.inj h1'
          have e2 : (σ[j]?).getD none = some v := Option.some.inj h2'
          have hσ : σ[j]? = some (some v) := by
            cases q : σ[j]? with
            | none => rw [q] at e2; cases e2
            | some o => rw [q] at e2; rw [show o = some v from e2]
          have hcj := (List.all_eq_true.mp hcap) j (List.mem_of_getElem? ej)
          simp only [Bool.and_eq_true, Bool.or_eq_true, beq_iff_eq, decide_eq_true_eq] at hcj
          obtain ⟨⟨hjl, hok1⟩, hok2⟩ := hcj
          rw [e1] at hok1 hok2
          have hNj : X.N[j]? = some y := by
            rw [hN, ← e1, List.getD_eq_getElem?_getD]
            simp [hjl]
          obtain ⟨m, hm, hl⟩ := I2.loc
          have hvis : Vis X.env.scope y := by
            rw [hsc]
            rcases hok1 with z | z
            · exact .inr (.inl z)
            · exact .inr (.inr z)
          obtain ⟨u, ru, look⟩ := hl j y v hNj hσ hvis
          refine ⟨u, ru, .inr ⟨lookup_relabel_free hok2, ?_⟩⟩
          rcases look with ⟨lk, _⟩ | ⟨_, c, ec, hcl⟩
          · have lk' : X.env.scope.names.lookup y = some .local := lk
            rw [hsc] at lk'
            rcases hok1 with z | z <;> (rw [z] at lk'; cases lk')
          · obtain ⟨c', ec'⟩ := cl2 y (PySem.mem_of_lookup hok2)
            have := cl1 y c' ec'
            rw [ec] at this
            cases this
            exact ⟨c, ec', let ⟨o, ho, hd⟩ := hcl; ⟨o, old c o ho, hd⟩⟩
    · obtain ⟨v, o, ho, hd⟩ := I2.cell y c (cl1 y c e)
      exact ⟨v, o, old c o ho, hd⟩
  have DfsX : D ∉ X'.fs := fun z => absurd (frLt D z) (Nat.lt_irrefl _)
  have Dfp : D ∉ fp := fun z => absurd (fpD D z) (Nat.lt_irrefl _)
  have Dcell : ∀ y c, X'.env.cells.lookup y = some c → c ≠ D := fun y c e => Nat.ne_of_lt (cellLt y c (cl1 y c e))
  have D0 : X'.s₀.heap.objs.size ≤ D := by show s2.heap.objs.size ≤ D; omega
  have fpOk : ∀ {H : Hp} {pl : List (Addr × Obj)}, (∀ b ∈ fp, H b = none) → (∀ p ∈ pl, p.1 ∉ fp) → ∀ b ∈ fp, FpOk X' pl H b := fun {H pl} hn hp b hb => by
    refine ⟨hn b hb, ltC b (fpD b hb), fun z => ?_, .inl hb, fun y c e => (f2 b hb).2.2.2.2.1 y c (cl1 y c e), fun p q => ?_⟩
    · rcases List.mem_cons.mp (I2.stkSub b z) with e | e
      · exact (f2 b hb).2.1 e
      · exact (f2 b hb).2.2.1 e
    · intro e
      rcases List.mem_append.mp q with q | q
      · exact absurd (show p ∈ ([] : List (Addr × Obj)) from q) (by simp)
      · exact hp p q (by rw [e]; exact hb)
  have hif : PIf X' ifs tt := (hin C s2 H2 fp E').1
  have helt : PE X' elt te := (hin C s2 H2 fp E').2
  obtain ⟨W, ⟨m0, w0⟩, turn⟩ := h
  have loop : ∀ s₃ : Shared, s₃ = { s2 with heap := h₁, toks := s2.toks + ([] : List (Str × Value)).length } →
      codeAny (model X.prog X.w) X.A (.compLoop (.ListComp elt [⟨.Name x px, iter, ifs, 0⟩] scope pos) 0 (.ref it) (.ref D) (compEnvC scope cl C X.env)) (RR (.ref D) C) s₃ := by
    rintro s₃ rfl
    refine compLoop_any (fun n s' => ∃ i ys its nn H', Inv X' [] (none :: capSt σ js) H' s' ∧ tn i s'.heap ∧ (∀ b ∈ fp, H' b = none) ∧ s'.heap.get? D = some { cls := .type "list", data := .seq (its : List Value).toArray nn } ∧ H' D = none ∧ Vals ys its ∧ W i n ys H') ?_ m0
      ⟨0, [], [], 0, H2, I0, T.keep _ _ _ st fun b _ o e => old b o e, fun b hb => (f2 b hb).1, hacc, nD2, .nil, w0⟩
    rintro n s3 ⟨i, ys, its, nn, H3, I3, st3, fr3, hD3, nD3, rv, w3⟩
    have hlen : ys.length = its.length := rv.length
    let ob : Obj := { cls := .type "list", data := .seq its.toArray nn }
    have nocell : ∀ v, ob.data ≠ .cell v := fun v z => nomatch z
    have I3p : Inv X' [(D, ob)] (none :: capSt σ js) H3 s3 := I3.pins_of fun p hp => by
      have e : p = (D, ob) := by simpa using hp
      subst e
      exact ⟨hD3, nD3, hDC, DfsX, nocell⟩
    have pfp : ∀ p ∈ [(D, ob)], p.1 ∉ fp := fun p hp => by
      have e : p = (D, ob) := by simpa using hp
      subst e
      exact Dfp
    rcases turn i n ys H3 w3 with ⟨stop, hz, q⟩ | ⟨go, hz, Nx, hNx, step⟩
    · refine wpAny_mono (T.done X' rfl rfl rfl hc i [(D, ob)] s3 _ H3 E' I3p (fpOk fr3 pfp) st3 stop) (fun r s4 ⟨hr, I4⟩ => ?_) fun _ _ e => e
      subst hr
      have hD4 : s4.heap.get? D = some ob := (I4.pin (D, ob) (by simp)).1
      have un : Un (frs X.stack) fp H2 H3 s2.heap s4.heap := I4.base
      obtain ⟨m, hm, _⟩ := I4.loc
      have nC3 : H3 C = none := I4.free
      refine hRR D C ys H3 s4 q nD3 ?_ ⟨m, hm⟩ (Ne.symm (ltC _ hLt)) (by have := I2.sz; omega) (fun y c e => ltC c (cellLt y c e)) (fun p hp => ?_) (by rw [upd_ne hDC.symm]; exact nC3)
      · refine I2.call' I4.os (un.track (by omega) nD3) (I4.hok.track nD3 ⟨hz, its, nn, rv, hD4⟩) I4.bare fun b hb => ?_
        obtain ⟨_, a2, _, a4, a5, a6⟩ := f2 b hb
        exact ⟨a4, a2, a5, a6⟩
      · exact ltC _ (below _ _ (I2.pin p hp).1)
    · refine wpAny_mono (T.item X' rfl rfl rfl hc i [(D, ob)] s3 _ H3 E' I3p (fpOk fr3 pfp) st3 go) (fun r s4 ⟨u, hr, h4⟩ => ?_) fun _ _ e => e
      subst hr
      refine wpAny_mono h4 (fun _ s5 ⟨xv, H5, I5, r5, y5, st5, fr5⟩ => ?_) fun _ _ e => e
      have I5' := I5.pinned (fpOk fr5 pfp) (T.obj _ _ st5)
      refine wpAny_assign_Name (store_ok (X := X') (i := 0) (x := x) I5' hnd rfl (.inl (lookup_relabel_local hxl)) r5 (fun s6 I6 => ?_) (.inr (lookup_relabel_local hxl)))
      -- behind the element or the test: the next turn
      have next : ∀ {s7 : Shared} {H7 : Hp}, Inv X' ([(D, ob)] ++ pinsAt fp s5.heap) (some xv :: capSt σ js) H7 s7 →
          Inv X' [] (none :: capSt σ js) H7 s7 ∧ tn (i + 1) s7.heap ∧ (∀ b ∈ fp, H7 b = none) ∧ s7.heap.get? D = some ob ∧ H7 D = none := fun {s7 H7} I7 => by
        have pD := I7.pin (D, ob) (List.mem_append_right _ (List.mem_append_left _ (by simp)))
        refine ⟨(I7.weak (σ' := none :: capSt σ js) (by simp) fun j v e => ?_).pins_of (fun p hp => nomatch hp), T.keep _ _ _ st5 fun b hb o e => (I7.pin (b, o) (List.mem_append_right _ (List.mem_append_right _ (mem_pinsAt hb e)))).1, fun b hb => ?_, pD.1, pD.2.1⟩
        · cases j with
          | zero => simp at e
          | succ j => simpa using e
        · obtain ⟨o, e, d⟩ := T.obj _ _ st5 b hb
          exact (I7.pin (b, o) (List.mem_append_right _ (List.mem_append_right _ (mem_pinsAt hb e)))).2.1
      refine wpAny_mono (hif _ s6 _ H5 _ I6 (step xv H5 y5)) (fun b s7 ⟨H7, I7, q7⟩ => ?_) fun _ _ e => e
      cases b with
      | false =>
        rw [if_neg Bool.false_ne_true] at q7 ⊢
        obtain ⟨m', hm, w7⟩ := hNx ys H7 q7
        obtain ⟨a1, a2, a3, a4, a5⟩ := next I7
        exact ⟨m', hm, i + 1, ys, its, nn, H7, a1, a2, a3, a4, a5, rv, w7⟩
      | true =>
        rw [if_pos rfl] at q7 ⊢
        refine wpAny_mono (helt _ s7 _ H7 _ I7 q7) (fun uv s8 ⟨v, H8, I8, r8, q8⟩ => ?_) fun _ _ e => e
        obtain ⟨m', hm, w8⟩ := hNx _ H8 q8
        obtain ⟨a1, a2, a3, a4, a5⟩ := next I8
        refine call_meets F.slot_list_append ⟨_, a4, rfl⟩ F.entry_list_append (F.args_list_append_2 _ _) (PySem.list_append D its.toArray nn uv (by rw [List.size_toArray]; omega)) ⟨a4, ?_⟩
        have q := PySem.IsL.update a4 (·.push uv)
        have e2 : its.toArray.push uv = (its ++ [uv]).toArray := by simp
        rw [e2] at q
        have kk : ∀ b o, b ≠ D → s8.heap.get? b = some o → (s8.heap.update D (Obj.mapSeq (·.push uv))).get? b = some o := fun b o hb e => (Heap.get?_update_other s8.heap _ (Ne.symm hb)).trans e
        refine ⟨m', hm, i + 1, ys ++ [v], its ++ [uv], _, H8, a1.turned (t' := s8.toks) kk a5 hDC (.inr D0) Dcell (fun p hp => ?_), T.keep _ _ _ a2 fun b hb o e => kk b o (fun z => Dfp (z ▸ hb)) e, a3, q, a5, rv.append (.cons r8 .nil), w8⟩
        · exact absurd (show p ∈ ([] : List (Addr × Obj)) from hp) (by simp)
  exact codeAny_compStart_list (loop _ rfl) (T.self X.A 0 _ _ _ (T.keep _ _ _ st fun b _ o e => old b o e) (loop _ rfl))

/-- [elt for x in iter if ..]: js, the slots of the names that the block takes from around it -/
def tLC (wi : TI) (js : List Nat) (tt : TT) (te : TE) : TE := fun σ H Q => wi σ H fun J H1 => LcLoop J (capSt σ js) tt te H1 fun ys H2 => ∀ D, H2 D = none → Q (.ref D) (upd H2 D (.lst ys))
theorem frees_of (hs1 : scOk osc scope x = true) (hsc : X.env.scope = osc) {pins : List (Addr × Obj)} {σ : St} {H : Hp} {s : Shared} (I : Inv X pins σ H s) : ∀ n, (n, NameKind.free) ∈ scope.names → ∃ c, X.env.cells.lookup n = some c := fun n hn => by
  unfold scOk at hs1
  simp only [Bool.and_eq_true, beq_iff_eq, List.all_eq_true] at hs1
  have h := hs1.2 _ hn
  simp only [bne_self_eq_false, Bool.false_or, Bool.or_eq_true, beq_iff_eq] at h
  refine I.ok.has n ?_
  show X.env.scope.names.lookup n = _ ∨ X.env.scope.names.lookup n = _
  rw [hsc]; exact h
theorem scOk.kind (hs1 : scOk osc scope x = true) : scope.kind = .function := by
  unfold scOk at hs1
  simp only [Bool.and_eq_true, beq_iff_eq, List.all_eq_true] at hs1
  exact hs1.1.1.1.1
theorem scOk.names (hs1 : scOk osc scope x = true) : ∀ y ∈ scope.names, y.2 = .local → scope.names.lookup y.1 = some .local := fun y hy e => by
  unfold scOk at hs1
  simp only [Bool.and_eq_true, beq_iff_eq, List.all_eq_true] at hs1
  have := hs1.1.1.2 y hy
  rw [e] at this
  simpa using this
theorem pe_lc {wi : TI} {ps : List Str} (_S : FnScope N ps osc) (js : List Nat) (hi : PI X (.Name x px) iter wi)
    (hin : ∀ cl C s H fp E, PIf (cxC X scope cl C (x :: capN N js) s H fp E) ifs tt ∧ PE (cxC X scope cl C (x :: capN N js) s H fp E) elt te)
    (hN : X.N = N := by rfl) (hsc : X.env.scope = osc := by rfl) (hcap : capOk N osc scope js = true := by decide +kernel) (hs1 : scOk osc scope x = true := by decide +kernel) (hnd : (x :: capN N js).Nodup := by decide +kernel) (hc : X.calm = true := by rfl)
    (hs : ∀ v, foldedSetIterable iter X.env v = pure v := by intro _; rfl) :
    PE X (.ListComp elt [⟨.Name x px, iter, ifs, 0⟩] scope pos) (tLC wi js tt te) := by
  intro pins s σ H Q I h
  obtain ⟨cl, hcl, cl1, cl2⟩ := closure_of (frees_of hs1 hsc I)
  rw [eval_ListComp]
  refine wpAny_comprehension_free (use := none) rfl hs hcl (scOk.kind hs1) (scOk.names hs1) (thn (hi pins s σ H _ I h) fun v s1 h1 => thn h1 fun itv s2 h2 => ?_)
  obtain ⟨it, fp, tn, J, H2, e, I2, T, st2, f2, lp⟩ := h2
  subst e
  refine comp_core (RR := fun acc C => compPost (model X.prog X.w) X.A X.xe none (EP X pins σ Q) acc C) hN hsc hcap hs1 hnd hc (hin cl) I2 T st2 f2 cl1 cl2 lp ?_
  intro D C ys H' s' q nD I' hm hL h0 hce hpi hfree
  refine ⟨hm.choose, hm.choose_spec, fun h' hs' => ⟨.ref D, _, I'.turned (t' := s'.toks) (fun b o hb e => hs'.extBut b o hb e) hfree hL (.inr h0) hce hpi, rfl, q D nD⟩⟩
end
end L2

namespace L2
open PySem PySem.Spec PyProof.Rows

/-! ### isinstance -/
section
variable {X : Cx}
/-- a class as a value -/
inductive ClV : V → Value → Prop where
  | ty (n : String) : ClV (.ty n) (.type n)
  | ref (a : Addr) : ClV (.ref a) (.ref a)
theorem ClV.rel {c : V} {cv u : Value} (h : ClV c cv) (r : RelV c u) : u = cv := by
  cases h with
  | ty n => exact r
  | ref a => exact r
theorem call_isinst : CallR X (.builtin "isinstance") (fun xs H Q => ∃ x c t cv b, xs = [x, c] ∧ ClV c cv ∧ TyOf X.K H x t ∧ PySem.W.kitOne X.K t cv = some b ∧ Q (.bl b) H) := by
  intro pins s σ H xs us Q I r h
  obtain ⟨x, c, t, cv, b, rfl, hc, ht, he, q⟩ := h
  cases r with
  | cons r1 r' =>
    cases r' with
    | cons r2 r'' =>
      cases r''
      obtain rfl := hc.rel r2
      exact isinst_ok I r1 ht he fun tk => ⟨.bl b, H, I.tok tk, rfl, q⟩
end

/-! ### == and != of lists and tuples, by what they stand for -/
/-- what == of two values says, at every heap that H describes -/
def EqD (X : Cx) (H : Hp) (d : Nat) (x y : V) (b : Bool) : Prop :=
  ∀ (A : Around) (s : Shared) (pins : List (Addr × Obj)) (σ : St) (u v : Value), Inv X pins σ H s → A.units + d < cLine → RelV x u → RelV y v → SeqAt.EqAt A s u v b
def RcD (X : Cx) (H : Hp) (d : Nat) (x y : V) (b : Bool) : Prop :=
  ∀ (A : Around) (s : Shared) (pins : List (Addr × Obj)) (σ : St) (u v : Value), Inv X pins σ H s → A.units + d < cLine → RelV x u → RelV y v → SeqAt.RcAt A s u v b ∧ SeqAt.RcNeAt A s u v (!b)
/-- R reads data off a value; two values are equal just if their data are -/
structure EqR (X : Cx) (H : Hp) (d : Nat) {α : Type} [DecidableEq α] (R : V → α → Prop) : Prop where
  eq : ∀ x y a b, R x a → R y b → EqD X H d x y (decide (a = b))
  rc : ∀ x y a b, R x a → R y b → RcD X H d x y (decide (a = b))
  one : ∀ x a b, R x a → R x b → (∃ pins σ s, Inv X pins σ H s) → a = b
section
variable {X : Cx} {H : Hp} {d : Nat}
def isI : V → Int → Prop := fun v i => v = .int i
theorem EqR.int : EqR X H d isI := ⟨fun x y a b ha hb A s pins σ u v I hu ru rv => by
    cases ha; cases hb
    obtain ⟨t, rfl⟩ := ru
    obtain ⟨t', rfl⟩ := rv
    rw [show decide (a = b) = (a == b) from rfl]
    exact SeqAt.EqAt.int_int a t b t', fun x y a b ha hb A s pins σ u v I hu ru rv => by
    cases ha; cases hb
    obtain ⟨t, rfl⟩ := ru
    obtain ⟨t', rfl⟩ := rv
    rw [show decide (a = b) = (a == b) from rfl]
    exact ⟨SeqAt.RcAt.int_int a t b t', SeqAt.RcNeAt.int_int a t b t'⟩, fun x a b ha hb _ => by cases ha; cases hb; rfl⟩
variable {α : Type} [DecidableEq α] {R : V → α → Prop}
/-- a tuple, a list of what R reads -/
def isT (K : PySem.W.Frag) (H : Hp) (R : V → α → Prop) : V → List α → Prop := fun v as => ∃ a xs, v = .ref a ∧ SqT K H a xs ∧ Paired R xs as
def isL (K : PySem.W.Frag) (H : Hp) (R : V → α → Prop) : V → List α → Prop := fun v as => ∃ a xs, v = .ref a ∧ SqL K H a xs ∧ Paired R xs as
theorem Paired.get {β γ : Type} {F : β → γ → Prop} : ∀ {xs : List β} {ys : List γ} {i : Nat} {x : β}, Paired F xs ys → xs[i]? = some x → ∃ y, ys[i]? = some y ∧ F x y
  | _, _, _, _, .nil, e => by simp at e
  | _, _, 0, _, .cons r _, e => by simp at e; subst e; exact ⟨_, rfl, r⟩
  | _, _, i + 1, x, .cons _ t, e => by
    obtain ⟨u, h1, h2⟩ := Paired.get (i := i) (x := x) t (by simpa using e)
    exact ⟨u, by simpa using h1, h2⟩
theorem paired_one {X : Cx} {H : Hp} {d : Nat} (h : EqR X H d R) (I : ∃ pins σ s, Inv X pins σ H s) : ∀ {xs : List V} {as bs : List α}, Paired R xs as → Paired R xs bs → as = bs
  | _, _, _, .nil, .nil => rfl
  | _, _, _, .cons r t, .cons r' t' => by rw [h.one _ _ _ r r' I, paired_one h I t t']
theorem all_range_eq {as bs : List α} (hl : as.length = bs.length) : (List.range as.length).all (fun j => decide (as[j]? = bs[j]?)) = decide (as = bs) := by
  rw [Bool.eq_iff_iff, List.all_eq_true, decide_eq_true_iff]
  constructor
  · intro h
    apply List.ext_getElem? 
    intro j
    by_cases hj : j < as.length
    · exact of_decide_eq_true (h j (List.mem_range.mpr hj))
    · rw [List.getElem?_eq_none_iff.mpr (by omega), List.getElem?_eq_none_iff.mpr (by omega)]
  · intro h j _
    rw [h]; simp
theorem EqR.tup (h : EqR X H d R) : EqR X H (d + 1) (isT X.K H R) := by
  have rc : ∀ x y a b, isT X.K H R x a → isT X.K H R y b → RcD X H (d + 1) x y (decide (a = b)) := by
    rintro x y as bs ⟨a, xs, rfl, hx, pa⟩ ⟨b, ys, rfl, hy, pb⟩ A s pins σ u v I hu ru rv
    cases ru; cases rv
    obtain ⟨its, r1, t1, _⟩ := I.tuple hx
    obtain ⟨jts, r2, t2, _⟩ := I.tuple hy
    have l1 := r1.length
    have l2 := r2.length
    have l3 := pa.length
    have l4 := pb.length
    have hu1 : A.units < cLine := by omega
    have he : ∀ j (h1 : j < its.toArray.size) (h2 : j < jts.toArray.size), SeqAt.EqAt A.in1 s its.toArray[j] jts.toArray[j] (decide (as[j]? = bs[j]?)) := fun j h1 h2 => by
      simp only [List.size_toArray] at h1 h2
      obtain ⟨xv, ex⟩ : ∃ xv, xs[j]? = some xv := ⟨xs[j]'(by omega), List.getElem?_eq_getElem (by omega)⟩
      obtain ⟨yv, ey⟩ : ∃ yv, ys[j]? = some yv := ⟨ys[j]'(by omega), List.getElem?_eq_getElem (by omega)⟩
      obtain ⟨u1, q1, w1⟩ := r1.get ex
      obtain ⟨u2, q2, w2⟩ := r2.get ey
      obtain ⟨a1, p1, z1⟩ := Paired.get pa ex
      obtain ⟨a2, p2, z2⟩ := Paired.get pb ey
      have g1 : its.toArray[j]'(by simpa using h1) = u1 := by
        have := List.getElem?_eq_some_iff.mp q1
        simpa using this.2
      have g2 : jts.toArray[j]'(by simpa using h2) = u2 := by
        have := List.getElem?_eq_some_iff.mp q2
        simpa using this.2
      rw [g1, g2, p1, p2]
      have := h.eq xv yv a1 a2 z1 z2 A.in1 s pins σ u1 u2 I (by show A.units + 1 + d < cLine; omega) w1 w2
      rw [show decide (some a1 = some a2) = decide (a1 = a2) by simp]
      exact this
    have hb : ((List.range (min its.toArray.size jts.toArray.size)).all (fun j => decide (as[j]? = bs[j]?)) && its.toArray.size == jts.toArray.size) = decide (as = bs) := by
      simp only [List.size_toArray]
      by_cases hl : as.length = bs.length
      · have e1 : its.length = jts.length := by omega
        have e2 : min its.length jts.length = as.length := by omega
        rw [e2, all_range_eq hl, e1]; simp
      · have : (its.length == jts.length) = false := by simp; omega
        rw [this, Bool.and_false]
        exact (decide_eq_false fun e => hl (by rw [e])).symm
    have z1 := SeqAt.RcAt.tuples (A := A) (s := s) t1 t2 hu1 he
    have z2 := SeqAt.RcNeAt.tuples (A := A) (s := s) t1 t2 hu1 he
    rw [hb] at z1 z2
    exact ⟨z1, z2⟩
  refine ⟨?_, rc, ?_⟩
  · rintro x y as bs hx hy A s pins σ u v I hu ru rv
    obtain ⟨a, xs, rfl, hx', pa⟩ := id hx
    obtain ⟨b, ys, rfl, hy', pb⟩ := id hy
    cases ru; cases rv
    by_cases e : a = b
    · subst e
      have : xs = ys := I.tuple_inj hx' hy'
      subst this
      rw [paired_one h ⟨pins, σ, s, I⟩ pa pb, decide_eq_true rfl]
      exact SeqAt.EqAt.same _
    · exact SeqAt.EqAt.of_refs e (rc _ _ as bs hx hy A s pins σ _ _ I hu rfl rfl).1
  · rintro x as bs ⟨a, xs, rfl, hx, pa⟩ ⟨b, ys, e, hy, pb⟩ ⟨pins, σ, s, I⟩
    cases e
    have : xs = ys := I.tuple_inj hx hy
    subst this
    exact paired_one h ⟨pins, σ, s, I⟩ pa pb
theorem EqR.lst (h : EqR X H d R) : EqR X H (d + 1) (isL X.K H R) := by
  have rc : ∀ x y a b, isL X.K H R x a → isL X.K H R y b → RcD X H (d + 1) x y (decide (a = b)) := by
    rintro x y as bs ⟨a, xs, rfl, hx, pa⟩ ⟨b, ys, rfl, hy, pb⟩ A s pins σ u v I hu ru rv
    cases ru; cases rv
    obtain ⟨its, r1, t1, _⟩ := I.list hx
    obtain ⟨jts, r2, t2, _⟩ := I.list hy
    have l1 := r1.length
    have l2 := r2.length
    have l3 := pa.length
    have l4 := pb.length
    have hu1 : A.units < cLine := by omega
    by_cases hl : as.length = bs.length
    · have he : ∀ j (h1 : j < its.toArray.size) (h2 : j < jts.toArray.size), SeqAt.EqAt A.in1 s its.toArray[j] jts.toArray[j] (decide (as[j]? = bs[j]?)) := fun j h1 h2 => by
        simp only [List.size_toArray] at h1 h2
        obtain ⟨xv, ex⟩ : ∃ xv, xs[j]? = some xv := ⟨xs[j]'(by omega), List.getElem?_eq_getElem (by omega)⟩
        obtain ⟨yv, ey⟩ : ∃ yv, ys[j]? = some yv := ⟨ys[j]'(by omega), List.getElem?_eq_getElem (by omega)⟩
        obtain ⟨u1, q1, w1⟩ := r1.get ex
        obtain ⟨u2, q2, w2⟩ := r2.get ey
        obtain ⟨a1, p1, z1⟩ := Paired.get pa ex
        obtain ⟨a2, p2, z2⟩ := Paired.get pb ey
        have g1 : its.toArray[j]'(by simpa using h1) = u1 := by
          have := List.getElem?_eq_some_iff.mp q1
          simpa using this.2
        have g2 : jts.toArray[j]'(by simpa using h2) = u2 := by
          have := List.getElem?_eq_some_iff.mp q2
          simpa using this.2
        rw [g1, g2, p1, p2]
        have := h.eq xv yv a1 a2 z1 z2 A.in1 s pins σ u1 u2 I (by show A.units + 1 + d < cLine; omega) w1 w2
        rw [show decide (some a1 = some a2) = decide (a1 = a2) by simp]
        exact this
      have hsz : its.toArray.size = jts.toArray.size := by simp; omega
      have hb : (List.range its.toArray.size).all (fun j => decide (as[j]? = bs[j]?)) = decide (as = bs) := by
        simp only [List.size_toArray]
        rw [show its.length = as.length by omega, all_range_eq hl]
      have z1 := SeqAt.RcAt.lists (A := A) (s := s) t1.isList t2.isList hsz hu1 he
      have z2 := SeqAt.RcNeAt.lists (A := A) (s := s) t1.isList t2.isList hsz hu1 he
      rw [hb] at z1 z2
      exact ⟨z1, z2⟩
    · have hsz : (its.toArray.size != jts.toArray.size) = true := by simp; omega
      rw [decide_eq_false fun e => hl (by rw [e])]
      exact ⟨SeqAt.RcAt.lists_lengths t1.isList t2.isList hsz hu1, SeqAt.RcNeAt.lists_lengths t1.isList t2.isList hsz hu1⟩
  refine ⟨?_, rc, ?_⟩
  · rintro x y as bs hx hy A s pins σ u v I hu ru rv
    obtain ⟨a, xs, rfl, hx', pa⟩ := id hx
    obtain ⟨b, ys, rfl, hy', pb⟩ := id hy
    cases ru; cases rv
    by_cases e : a = b
    · subst e
      have : xs = ys := I.list_inj hx' hy'
      subst this
      rw [paired_one h ⟨pins, σ, s, I⟩ pa pb, decide_eq_true rfl]
      exact SeqAt.EqAt.same _
    · exact SeqAt.EqAt.of_refs e (rc _ _ as bs hx hy A s pins σ _ _ I hu rfl rfl).1
  · rintro x as bs ⟨a, xs, rfl, hx, pa⟩ ⟨b, ys, e, hy, pb⟩ ⟨pins, σ, s, I⟩
    cases e
    have : xs = ys := I.list_inj hx hy
    subst this
    exact paired_one h ⟨pins, σ, s, I⟩ pa pb
def rNeD (X : Cx) : R2 := fun x y H Q => ∃ b, RcD X H 20 x y b ∧ Q (.bl (!b)) H
theorem op_neD (hu : X.A.units + 20 < cLine) : OpR X (compareOp .NotEq) (rNeD X) := by
  intro pins s σ H x y v u Q I rx ry h
  obtain ⟨b, hb, q⟩ := h
  exact (hb X.A s pins σ v u I hu rx ry).2 X.prog X.w X.xe _ ⟨.bl (!b), H, I, rfl, q⟩
/-- x in a list or tuple of what R reads -/
def rInD (X : Cx) (neg : Bool) : R2 := fun x y H Q => ∃ (α : Type) (_ : DecidableEq α) (R : V → α → Prop) (p : Addr) (xs : List V) (as : List α) (a : α), y = .ref p ∧ EqR X H 19 R ∧ (SqL X.K H p xs ∨ SqT X.K H p xs) ∧ Paired R xs as ∧ R x a ∧ Q (.bl (if neg then !decide (a ∈ as) else decide (a ∈ as))) H
open Classical in
theorem in_any {β : Type} [DecidableEq β] {F : V → β → Prop} {a : β} : ∀ {xs : List V} {us : List Value} {as : List β}, Vals xs us → Paired F xs as → (∀ x c c', F x c → F x c' → c = c') → us.any (fun u => decide (∃ x c, RelV x u ∧ F x c ∧ c = a)) = decide (a ∈ as)
  | _, _, _, .nil, .nil, _ => by simp
  | _, _, _, .cons r t, .cons f p, h => by
    rw [List.any_cons, in_any t p h]
    rw [Bool.eq_iff_iff]
    simp only [Bool.or_eq_true, decide_eq_true_eq, List.mem_cons]
    constructor
    · rintro (⟨x, c, rx, fx, rfl⟩ | z)
      · have := r.inj rx
        subst this
        exact .inl (h _ _ _ fx f)
      · exact .inr z
    · rintro (rfl | z)
      · exact .inl ⟨_, _, r, f, rfl⟩
      · exact .inr z
open Classical in
theorem mem_eqR {X : Cx} {H : Hp} {β : Type} [DecidableEq β] {R : V → β → Prop} (h : EqR X H 19 R) {A : Around} {s : Shared} {pins : List (Addr × Obj)} {σ : St} (I : Inv X pins σ H s) (hu : A.units + 20 < cLine) {x : V} {v : Value} {a : β} (rx : RelV x v) (fx : R x a) :
    ∀ {xs : List V} {us : List Value} {as : List β}, Vals xs us → Paired R xs as → ∀ u ∈ us, SeqAt.EqAt A.in1 s u v (decide (∃ x c, RelV x u ∧ R x c ∧ c = a))
  | _, _, _, .nil, .nil => fun u hu => by cases hu
  | _, _, _, .cons (a := y) r t, .cons (b := c) f p => fun u' hu' => by
    rcases List.mem_cons.mp hu' with rfl | hu'
    · have := h.eq y x c a f fx A.in1 s pins σ _ v I (by show A.units + 1 + 19 < cLine; omega) r rx
      have e : decide (c = a) = decide (∃ x c, RelV x u' ∧ R x c ∧ c = a) := by
        rw [Bool.eq_iff_iff]
        simp only [decide_eq_true_eq]
        constructor
        · intro e; exact ⟨y, c, r, f, e⟩
        · rintro ⟨x', c', r', f', rfl⟩
          have := r.inj r'
          subst this
          exact h.one _ _ _ f f' ⟨pins, σ, s, I⟩
      rw [← e]; exact this
    · exact mem_eqR h I hu rx fx t p u' hu'
theorem op_inD (hu : X.A.units + 20 < cLine) : OpR X (compareOp .In) (rInD X false) := by
  intro pins s σ H x y v u Q I rx ry h
  obtain ⟨α, _, R, p, xs, as, a, rfl, hR, hs, pa, ra, q⟩ := h
  cases ry
  have one : ∀ x c c', R x c → R x c' → c = c' := fun x c c' h1 h2 => hR.one x c c' h1 h2 ⟨pins, σ, s, I⟩
  rcases hs with hs | hs
  · obtain ⟨its, r, pl, _⟩ := I.list hs
    refine SeqAt.in_listAt _ pl.isList (fun w hw => mem_eqR hR I hu rx ra r pa w (by simpa using hw)) ⟨.bl _, H, I, rfl, ?_⟩
    simp only [List.any_toArray, in_any r pa one]
    simpa using q
  · obtain ⟨its, r, pl, _⟩ := I.tuple hs
    refine SeqAt.in_tupleAt _ pl (fun w hw => mem_eqR hR I hu rx ra r pa w (by simpa using hw)) ⟨.bl _, H, I, rfl, ?_⟩
    simp only [List.any_toArray, in_any r pa one]
    simpa using q
end
end L2

namespace L2
open PySem PySem.Spec PyProof.Rows
section
variable {X : Cx} {pins : List (Addr × Obj)} {σ : St} {H : Hp} {s : Shared} {h' : Heap}
/-- several untracked records of ours have turned -/
theorem Inv.turnedL {t' : Nat} {ch : List Addr} (I : Inv X pins σ H s) (k : ∀ b o, b ∉ ch → s.heap.get? b = some o → h'.get? b = some o) (hf : ∀ b ∈ ch, FpOk X pins H b) : Inv X pins σ H { s with heap := h', toks := t' } := by
  have nit : ∀ b u, H b = some u → b ∉ ch := fun b u e z => by rw [(hf b z).1] at e; cases e
  refine I.step (g' := s.gens) (d' := s.drawn) (ch := ch) (fun b hb => ?_) (fun b o _ _ hc e _ => k b o hc e) (fun b o _ _ hc e _ => ⟨o.slots, k b o hc e⟩) (fun _ _ _ _ n => n)
    (fun b o hc e => ⟨o, k b o hc e⟩) (fun _ _ e => e) (fun _ _ _ e => e) (fun b ps e => ⟨#[], by rw [e]; simp⟩) (fun m hm => ?_) (fun b u e => ?_) I.bare
  · obtain ⟨_, a2, _, a4, a5, a6⟩ := hf b hb
    exact ⟨a4, a2, a5, a6⟩
  · obtain ⟨o, es, ep, ho, r⟩ := hm
    exact ⟨o, es, ep, k _ o (fun z => (hf _ z).2.1 rfl) ho, r⟩
  · refine (I.hok b u e).stay (fun c v hc q => k c v ?_ q) (fun _ q => q) fun _ _ q => q
    rcases hc with z | z
    · rw [z]; exact nit b u e
    · exact nit c _ z
/-- an object of ours that stood untracked is tracked from now on -/
theorem Inv.track {a : Addr} {o : HO} {t' : Nat} (I : Inv X pins σ H s) (hf : FpOk X pins H a) (new : ObjOk X.prog X.w (upd H a o) s.heap a o) : Inv X pins σ (upd H a o) { s with toks := t' } := by
  have hn := hf.1
  refine I.step (h' := s.heap) (g' := s.gens) (d' := s.drawn) (ch := [a]) (fun b hb => ?_) (fun b o _ _ _ e _ => e) (fun b o _ _ _ e _ => ⟨o.slots, e⟩) (fun b ob hc e n => ?_)
    (fun b o _ e => ⟨o, e⟩) (fun b xs e => by rw [upd_ne (ne_of_none e hn)]; exact e) (fun b ob u e => by rw [upd_ne (ne_of_none e hn)]; exact e) (fun b ps e => ⟨#[], by rw [upd_ne (ne_of_none e hn), e]; simp⟩) (fun m hm => hm) (I.hok.track hn new) I.bare
  · have e : b = a := by simpa using hb
    subst e
    obtain ⟨_, a2, _, a4, a5, a6⟩ := hf
    exact ⟨a4, a2, a5, a6⟩
  · rw [upd_ne (fun z => hc (by simp [z]))]; exact n
end

/-! ### for a, b in zip(l, m) of two lists -/
def Itz (K : PySem.W.Frag) (l1 l2 : Addr) : It :=
  ⟨fun i H => ∃ xs ys x y, SqL K H l1 xs ∧ SqL K H l2 ys ∧ xs[i]? = some x ∧ ys[i]? = some y,
   fun i H v H' => ∃ T x y, v = .ref T ∧ H T = none ∧ H' = upd H T (.tup [x, y]) ∧ (∀ xs, SqL K H l1 xs → xs[i]? = some x) ∧ (∀ ys, SqL K H l2 ys → ys[i]? = some y),
   fun i H => ∃ xs ys, SqL K H l1 xs ∧ SqL K H l2 ys ∧ (xs.length ≤ i ∨ ys.length ≤ i)⟩
theorem turn_zip {P : Program} {w : World} {K : PySem.W.Frag} {es : List Expr} {k : Nat} {pos : Pos} {z TI TO i1 i2 l1 l2 : Addr} (D : ZipApart z TI TO i1 i2 l1 l2) :
    Turn P w K (.Tuple es k pos) (Itz K l1 l2) [z, TI, TO, i1, i2] z (fun i h => IsZip h z TI TO .none ∧ IsPair h TI (.ref i1) (.ref i2) ∧ (∃ a b, IsPair h TO a b) ∧ h.IsListIter i1 l1 i ∧ h.IsListIter i2 l2 i) where
  mem := by simp
  obj := fun i h st b hb => by
    obtain ⟨hz, hTI, ⟨a', b', hTO⟩, ⟨o1, e1, c1, d1⟩, ⟨o2, e2, c2, d2⟩⟩ := st
    simp only [List.mem_cons, List.not_mem_nil, or_false] at hb
    rcases hb with rfl | rfl | rfl | rfl | rfl
    · exact ⟨_, hz, fun v z => nomatch z⟩
    · exact ⟨_, hTI, fun v z => nomatch z⟩
    · exact ⟨_, hTO, fun v z => nomatch z⟩
    · exact ⟨o1, e1, fun v z => by rw [d1] at z; cases z⟩
    · exact ⟨o2, e2, fun v z => by rw [d2] at z; cases z⟩
  keep := fun i h h' st kk => by
    obtain ⟨hz, hTI, ⟨a', b', hTO⟩, h1, h2⟩ := st
    exact ⟨kk z (by simp) _ hz, kk TI (by simp) _ hTI, ⟨a', b', kk TO (by simp) _ hTO⟩, h1.at fun o e => kk i1 (by simp) o e, h2.at fun o e => kk i2 (by simp) o e⟩
  item := by
    intro X hP hw hK hc i pins s σ H E I hf st hg
    subst hP hw hK
    obtain ⟨xs, ys, x, y, hq1, hq2, hx, hy⟩ := hg
    obtain ⟨its, rv, p1, _⟩ := I.list hq1
    obtain ⟨jts, rw', p2, _⟩ := I.list hq2
    obtain ⟨u1, hu1, ru1⟩ := rv.get hx
    obtain ⟨u2, hu2, ru2⟩ := rw'.get hy
    obtain ⟨hz, hTI, ⟨a, b, hTO⟩, h1, h2⟩ := st
    refine wpAny_pyNext_zip_item D hz hTI hTO h1 h2 p1.isList p2.isList (x := u1) (y := u2) (by simpa using hu1) (by simpa using hu2) fun h' a1 a2 a3 a4 a5 a6 hk => ?_
    refine ⟨_, rfl, wpAny_letOwnedTupleGo_zip a1 fun h'' hz'' hs'' => ?_⟩
    have hne : ∀ c, c ∈ [z, TI, TO, i1, i2] → s.heap.objs.size ≠ c := fun c hc => by
      have : ∃ o, s.heap.get? c = some o := by
        simp only [List.mem_cons, List.not_mem_nil, or_false] at hc
        obtain ⟨o1, e1, _⟩ := id h1
        obtain ⟨o2, e2, _⟩ := id h2
        rcases hc with rfl | rfl | rfl | rfl | rfl
        · exact ⟨_, hz⟩
        · exact ⟨_, hTI⟩
        · exact ⟨_, hTO⟩
        · exact ⟨_, e1⟩
        · exact ⟨_, e2⟩
      obtain ⟨o, e⟩ := this
      exact Nat.ne_of_gt (Heap.lt_size e)
    have I1 : Inv X pins σ H { s with heap := h'' } := I.turnedL (t' := s.toks) (ch := [z, TI, TO, i1, i2]) (fun c o hc e => hs''.extBut _ _ (fun q => hc (by simp [q])) (hk c o (fun q => hc (by simp [q])) (fun q => hc (by simp [q])) (fun q => hc (by simp [q])) (fun q => hc (by simp [q])) e)) hf
    have hT : h''.get? s.heap.objs.size = some { cls := .type "tuple", data := .seq #[u1, u2] } := hs''.extBut _ _ (hne z (by simp)) a5
    have I2 : Inv X pins σ (upd H s.heap.objs.size (.tup [x, y])) { s with heap := h'' } := I1.track (t' := s.toks) (I.fpOk (Nat.le_refl _) (I.hok.fresh (Nat.le_refl _))) ⟨by show 2 ≤ sizeLine; decide, [u1, u2], .cons ru1 (.cons ru2 .nil), ⟨_, hT, rfl, _, rfl⟩⟩
    refine ⟨.ref s.heap.objs.size, _, I2, rfl, ⟨_, x, y, rfl, I.hok.fresh (Nat.le_refl _), rfl, fun xs' h => by rw [I.list_inj h hq1]; exact hx, fun ys' h => by rw [I.list_inj h hq2]; exact hy⟩, ⟨hz'', hs''.extBut _ _ D.TIz (hk _ _ D.TIz D.TITO D.TIi1 D.TIi2 hTI), ⟨_, _, hs''.extBut _ _ D.TOz a2⟩, a3.extBut hs''.extBut D.i1z, a4.extBut hs''.extBut D.i2z⟩, fun c hc => ?_⟩
    rw [upd_ne (Ne.symm (hne c hc))]
    exact (hf c hc).1
  done := by
    intro X hP hw hK hc i pins s σ H E I hf st hg
    subst hP hw hK
    obtain ⟨xs, ys, hq1, hq2, hx⟩ := hg
    obtain ⟨its, rv, p1, _⟩ := I.list hq1
    obtain ⟨jts, rw', p2, _⟩ := I.list hq2
    obtain ⟨hz, hTI, ⟨a, b, hTO⟩, h1, h2⟩ := st
    have l1 := rv.length
    have l2 := rw'.length
    refine wpAny_pyNext_zip_end (I.ok.hd hc) D hz hTI hTO h1 h2 p1.isList p2.isList ?_ fun h' hk => ⟨rfl, ?_⟩
    · rcases hx with z | z
      · exact .inl (by simp; omega)
      · exact .inr (by simp; omega)
    · exact I.turnedL (t' := s.toks) (ch := [z, TI, TO, i1, i2]) (fun c o hc e => hk c o (fun q => hc (by simp [q])) (fun q => hc (by simp [q])) (fun q => hc (by simp [q])) (fun q => hc (by simp [q])) e) hf
  self := fun _ _ _ _ _ st h => wpAny_pyIter_zip st.1 h
def iZip (K : PySem.W.Frag) (ta : TA) : TI := fun σ H R => ta σ H fun vs H1 => ∃ l1 l2 xs ys, vs = [.ref l1, .ref l2] ∧ SqL K H1 l1 xs ∧ SqL K H1 l2 ys ∧ R (Itz K l1 l2) H1
theorem pi_zip {X : Cx} {a b : Expr} {ta : TA} {p pos : Pos} {es : List Expr} {k : Nat} {pt : Pos} (hg : Gl X "zip") (hm : X.mg "zip" = none) (ha : PA X [a, b] ta)
    (hs : starEach [a, b] X.env = [(false, eval a X.env), (false, eval b X.env)] := by rfl) (hs2 : starEach [b] X.env = [(false, eval b X.env)] := by rfl) (hv : bootBuiltins "zip" = some (.type "zip") := by decide +kernel) :
    PI X (.Tuple es k pt) (.Call (.Name "zip" p) [a, b] [] pos) (iZip X.K ta) := by
  intro pins s σ H R I h
  refine Call_ (ld_blt I hg hm hv (PyProof.Rows.callWith_type1 (thn (ha pos pins s σ H _ I h) fun us s1 ⟨vs, H1, I1, r1, q1⟩ => ?_) (by rw [hs, hs2]) (by rw [hs2]; rfl)))
  obtain ⟨l1, l2, xs, ys, e, hq1, hq2, q⟩ := q1
  subst e
  cases r1 with
  | cons r rr =>
    cases rr with
    | cons r' rr =>
      cases rr
      cases r
      cases r'
      obtain ⟨its, rv, p1, _⟩ := I1.list hq1
      obtain ⟨jts, rw', p2, _⟩ := I1.list hq2
      have lt1 : l1 < s1.heap.objs.size := by obtain ⟨o, n, e, _⟩ := p1; exact Heap.lt_size e
      have lt2 : l2 < s1.heap.objs.size := by obtain ⟨o, n, e, _⟩ := p2; exact Heap.lt_size e
      refine call_zip_2 p1.isList p2.isList fun h' hz hTI hTO hi1 hi2 hsz hk => wpAny_pyIter_zip hz ?_
      refine ⟨_, [_, _, _, _, _], _, Itz X.K l1 l2, H1, rfl, I1.kept (t' := s1.toks) hk, turn_zip (zipApart_new lt1 lt2), ⟨hz, hTI, ⟨_, _, hTO⟩, hi1, hi2⟩, fun b hb => ?_, q⟩
      have hb' : s1.heap.objs.size ≤ b := by
        simp only [List.mem_cons, List.not_mem_nil, or_false] at hb
        rcases hb with rfl | rfl | rfl | rfl | rfl <;> omega
      exact I1.fpOk hb' (I1.hok.fresh hb')
theorem for_zip {K : PySem.W.Frag} {l1 l2 : Addr} {xs ys : List V} {g : TG} {tb : TS} {D : Ends} {σ : St} {H : Hp} (hlen : xs.length = ys.length) (Pv : Nat → St → Hp → Prop) (h0 : Pv 0 σ H) (hl : ∀ i σ H, i ≤ xs.length → Pv i σ H → SqL K H l1 xs ∧ SqL K H l2 ys)
    (hs : ∀ i x y T σ H, xs[i]? = some x → ys[i]? = some y → H T = none → Pv i σ H → g (.ref T) σ (upd H T (.tup [x, y])) fun σ2 H2 => tb { D with nx := Pv (i + 1), ct := Pv (i + 1), bk := D.nx } σ2 H2) (hd : ∀ σ H, Pv xs.length σ H → D.nx σ H) :
    ∃ W : Nat → Nat → St → Hp → Prop, (∃ m, W 0 m σ H) ∧ ∀ i m σ H, W i m σ H →
      ((Itz K l1 l2).stop i H ∧ D.nx σ H) ∨ ((Itz K l1 l2).go i H ∧ ∃ N : St → Hp → Prop, (∀ σ' H', N σ' H' → ∃ m', m' < m ∧ W (i + 1) m' σ' H') ∧ ∀ x H', (Itz K l1 l2).yld i H x H' → g x σ H' fun σ2 H2 => tb { D with nx := N, ct := N, bk := D.nx } σ2 H2) := by
  refine ⟨fun i m σ H => m = xs.length - i ∧ i ≤ xs.length ∧ Pv i σ H, ⟨xs.length, by simp, Nat.zero_le _, h0⟩, ?_⟩
  rintro i m σ H ⟨rfl, hi, p⟩
  obtain ⟨q1, q2⟩ := hl i σ H hi p
  by_cases hlt : i < xs.length
  · refine .inr ⟨⟨xs, ys, xs[i], ys[i], q1, q2, by simp [hlt], by simp [← hlen, hlt]⟩, Pv (i + 1), fun σ' H' p' => ⟨xs.length - (i + 1), by omega, rfl, hlt, p'⟩, fun x H' y => ?_⟩
    obtain ⟨T, a, b, e1, hn, e2, ya, yb⟩ := y
    subst e1 e2
    exact hs i a b T σ _ (ya xs q1) (yb ys q2) hn p
  · have e : i = xs.length := by omega
    subst e
    exact .inl ⟨⟨xs, ys, q1, q2, .inl (Nat.le_refl _)⟩, hd σ H p⟩

/-! ### the comprehension's forms -/
theorem lc_range {lo : Int} {n : Nat} {cap : St} {tt : TT} {te : TE} {H : Hp} {P : List V → Hp → Prop} (Pv : Nat → List V → Hp → Prop) (h0 : Pv 0 [] H) (hn : n < sizeLine) (hb : ∀ i ys H, Pv i ys H → ys.length ≤ i)
    (hs : ∀ i ys H, i < n → Pv i ys H → tt (some (.int (lo + i)) :: cap) H fun b H3 => if b = true then te (some (.int (lo + i)) :: cap) H3 fun v H4 => Pv (i + 1) (ys ++ [v]) H4 else Pv (i + 1) ys H3) (hd : ∀ ys H, Pv n ys H → P ys H) :
    LcLoop (Itr lo n) cap tt te H P := by
  refine ⟨fun i m ys H => m = n - i ∧ i ≤ n ∧ Pv i ys H, ⟨n, by simp, Nat.zero_le _, h0⟩, ?_⟩
  rintro i m ys H ⟨rfl, hi, p⟩
  have hl := hb i ys H p
  by_cases hlt : i < n
  · refine .inr ⟨hlt, by omega, Pv (i + 1), fun σ' H' p' => ⟨n - (i + 1), by omega, rfl, hlt, p'⟩, fun x H' y => ?_⟩
    obtain ⟨e, y⟩ := y
    subst e y
    exact hs i ys _ hlt p
  · have e : i = n := by omega
    subst e
    exact .inl ⟨Nat.le_refl _, by omega, hd ys H p⟩
theorem lc_list {K : PySem.W.Frag} {a : Addr} {xs : List V} {cap : St} {tt : TT} {te : TE} {H : Hp} {P : List V → Hp → Prop} (Pv : Nat → List V → Hp → Prop) (h0 : Pv 0 [] H) (hn : xs.length < sizeLine) (hb : ∀ i ys H, Pv i ys H → ys.length ≤ i) (hl : ∀ i ys H, i ≤ xs.length → Pv i ys H → SqL K H a xs)
    (hs : ∀ i x ys H, xs[i]? = some x → Pv i ys H → tt (some x :: cap) H fun b H3 => if b = true then te (some x :: cap) H3 fun v H4 => Pv (i + 1) (ys ++ [v]) H4 else Pv (i + 1) ys H3) (hd : ∀ ys H, Pv xs.length ys H → P ys H) :
    LcLoop (Itl K a) cap tt te H P := by
  refine ⟨fun i m ys H => m = xs.length - i ∧ i ≤ xs.length ∧ Pv i ys H, ⟨xs.length, by simp, Nat.zero_le _, h0⟩, ?_⟩
  rintro i m ys H ⟨rfl, hi, p⟩
  have hyl := hb i ys H p
  have q := hl i ys H hi p
  by_cases hlt : i < xs.length
  · refine .inr ⟨⟨xs, xs[i], q, by simp [hlt]⟩, by omega, Pv (i + 1), fun σ' H' p' => ⟨xs.length - (i + 1), by omega, rfl, hlt, p'⟩, fun x H' y => ?_⟩
    obtain ⟨e, y⟩ := y
    subst e
    exact hs i x ys _ (y xs q) p
  · have e : i = xs.length := by omega
    subst e
    exact .inl ⟨⟨xs, q, Nat.le_refl _⟩, by omega, hd ys H p⟩

/-! ### defs, methods, classes in one piece -/
section
variable (P : Program) (w : World) (K : PySem.W.Frag) (mg : Str → Option Value) (base : Heap) (k : Nat)
def FnB (x : Str) (ps : List Str) (sp : Sp) : Prop := ∃ f fd, FnOk P w K mg base CX0 k f fd ps sp ∧ mg x = some (.ref f) ∧ PySem.W.keepIn K (.ref f) = true ∧ Binds K fd ps []
def MeB (C : Addr) (m : Str) (ps : List Str) (sp : Sp) : Prop := ∃ f fd, FnOk P w K mg base CX0 k f fd ps sp ∧ Meth K C m f ∧ Binds K fd ps [] ∧ Cls K C
def MkB (x : Str) (C : Addr) (ps : List Str) (sp : Sp) : Prop := ∃ f fd, FnOk P w K mg base CX0 k f fd ps sp ∧ mg x = some (.ref C) ∧ Mk K C f ∧ Binds K fd ps []
end
section
variable {X : Cx} {k : Nat} {x m : Str} {C : Addr} {ps : List Str} {sp : Sp} {p pos apos : Pos} {e o : Expr} {es : List Expr} {ta : TE} {t : TA}
theorem pe_fn (F : FnB X.prog X.w X.K X.mg X.base k x ps sp) (hr : Room k X.A) (ha : PA X (e :: es) t) (hg : Gl X x := by rfl) (hdb : (x == ("__debug__" : Str)) = false := by decide) (he : starEach (e :: es) X.env = (false, eval e X.env) :: starEach es X.env := by rfl) (hpl : (backTo pos (starEach es X.env)).any (·.1) = false := by rfl) :
    PE X (.Call (.Name x p) (e :: es) [] pos) (tCall sp [] E0 t) := by
  obtain ⟨f, fd, F, hm, hk, hb⟩ := F
  exact pe_call F hr hg hm hk hb .nil pass0 ha hdb he hpl
theorem pe_me {pl : Sem Bool} (M : MeB X.prog X.w X.K X.mg X.base k C m ps sp) (he : PE X o ta) (hr : Room k X.A) (ha : PA X (e :: es) t)
    (hst : starEach (e :: es) X.env = (false, eval e X.env) :: starEach es X.env := by rfl) (hpl : (backTo pos (starEach es X.env)).any (·.1) = false := by rfl)
    (ht : eval (.Call (.Attribute o m apos) (e :: es) [] pos) X.env = (do
      let ov ← eval o X.env
      standAt apos.atName
      let (f, first) ← holding [ov] (getMethod ov m pl)
      callWith pos f first (backTo pos (starEach (e :: es) X.env)) (backToKw pos (keywordEach [] X.env))) := by rfl) :
    PE X (.Call (.Attribute o m apos) (e :: es) [] pos) (tMeth C m sp [] E0 ta t) := by
  obtain ⟨f, fd, F, hm, hb, hc⟩ := M
  exact pe_meth he hc hm F hr hb .nil pass0 ha hst hpl ht
theorem pe_me0 {pl : Sem Bool} (M : MeB X.prog X.w X.K X.mg X.base k C m ps sp) (he : PE X o ta) (hr : Room k X.A)
    (ht : eval (.Call (.Attribute o m apos) [] [] pos) X.env = (do
      let ov ← eval o X.env
      standAt apos.atName
      let (f, first) ← holding [ov] (getMethod ov m pl)
      callWith pos f first (backTo pos (starEach [] X.env)) (backToKw pos (keywordEach [] X.env))) := by rfl) :
    PE X (.Call (.Attribute o m apos) [] [] pos) (tMeth C m sp [] E0 ta tNil) := by
  obtain ⟨f, fd, F, hm, hb, hc⟩ := M
  exact pe_meth0 he hc hm F hr hb .nil pass0 ht
theorem pe_mk (M : MkB X.prog X.w X.K X.mg X.base k x C ps sp) (hr : Room (k + 1) X.A) (ha : PA X (e :: es) t) (hg : Gl X x := by rfl) (hdb : (x == ("__debug__" : Str)) = false := by decide) (he : starEach (e :: es) X.env = (false, eval e X.env) :: starEach es X.env := by rfl) (hpl : (backTo pos (starEach es X.env)).any (·.1) = false := by rfl) :
    PE X (.Call (.Name x p) (e :: es) [] pos) (tMake C sp [] E0 t) := by
  obtain ⟨f, fd, F, hm, hM, hb⟩ := M
  exact pe_make hM F hr hg hm hb .nil pass0 ha hdb he hpl
end
theorem Room.u20 {k : Nat} {A : Around} (r : Room k A) : A.units + 20 < cLine := by have := r.un; omega
theorem Same.new {H : Hp} {a : Addr} {o : HO} (h : H a = none) : Same H (upd H a o) := fun b u e => by rw [upd_ne (ne_of_none e h)]; exact e
theorem Same.lay {H H' : Hp} {a : Addr} {o : HO} (s : Same H H') (h : H' a = none) : Same H (upd H' a o) := s.trans (Same.new h)
/-- an object that was not there is changed -/
theorem Same.put {H H' : Hp} {a : Addr} {o : HO} (s : Same H H') (h : H a = none) : Same H (upd H' a o) := fun b u e => by rw [upd_ne (ne_of_none e h)]; exact s b u e

/-- t + u of two tuples, either may be empty -/
def rCatU : R2 := fun x y H Q => ∃ a b xs ys, x = .ref a ∧ y = .ref b ∧ H a = some (.tup xs) ∧ H b = some (.tup ys) ∧ xs.length + ys.length ≤ sizeLine ∧ ∀ p H', Same H H' → H' p = some (.tup (xs ++ ys)) → Q (.ref p) H'
theorem op_catU {X : Cx} : OpR X (binaryOp .Add) rCatU := by
  intro pins s σ H x y v u Q I rx ry h
  obtain ⟨a, b, xs, ys, rfl, rfl, ha, hb, hz, q⟩ := h
  by_cases hx : xs = []
  · subst hx
    cases rx
    cases ry
    obtain ⟨its, r1, p1, _⟩ := I.tuple (SqT.of (K := X.K) ha)
    obtain ⟨its2, r2, p2, _⟩ := I.tuple (SqT.of (K := X.K) hb)
    cases r1
    obtain ⟨⟨cls, dd, data, sl⟩, ho, hc, n, hd⟩ := id p1
    obtain ⟨⟨cls2, dd2, data2, sl2⟩, ho2, hc2, n2, hd2⟩ := id p2
    simp only at hc hd hc2 hd2
    subst hc hd hc2 hd2
    refine concat_meets ⟨_, ho, rfl⟩ ⟨_, ho2, rfl⟩ noFill_tuple_add seq_tuple_add PySem.F.slot_tuple_add PySem.F.entry_tuple_add (PySem.F.args_tuple_add_2 _ _)
      (tuple_addW0 a b _ _ n n2 dd dd2 sl sl2 (by simp)) ⟨ho, ho2, ⟨.ref b, H, I, rfl, q b H (Same.refl _) (by simpa using hb)⟩⟩
  · refine op_catT pins s σ H (.ref a) (.ref b) v u Q I rx ry ⟨a, b, xs, ys, rfl, rfl, SqT.of ha, SqT.of hb, hx, hz, fun e => ?_, fun e p hp => ?_⟩
    · subst e
      exact q a H (Same.refl _) (by simpa using ha)
    · exact q p _ (Same.new hp) upd_same
end L2

namespace L2
open PySem PySem.Spec PyProof.Rows
section
variable {X : Cx} {k : Nat} {x m : Str} {ps : List Str} {sp : Sp} {p pos apos : Pos} {e o : Expr} {es : List Expr} {ta : TE} {t : TA}
/-- o.m(..) of an instance of one of several classes -/
def tMethU (S : Addr → Prop) (m : Str) (sp : Sp) (ta : TE) (t : TA) : TE := fun σ H Q => ta σ H fun x H1 => ∃ C a dx fs, S C ∧ x = .ref a ∧ H1 a = some (.ins C dx fs) ∧ fs.lookup m = none ∧
  t σ H1 fun vs H2 => sp (x :: (vs ++ [])) H2 Q E0
theorem pe_meU {pl : Sem Bool} {S : Addr → Prop} (M : ∀ C, S C → MeB X.prog X.w X.K X.mg X.base k C m ps sp) (he : PE X o ta) (hr : Room k X.A) (ha : PA X (e :: es) t)
    (hst : starEach (e :: es) X.env = (false, eval e X.env) :: starEach es X.env := by rfl) (hpl : (backTo pos (starEach es X.env)).any (·.1) = false := by rfl)
    (ht : eval (.Call (.Attribute o m apos) (e :: es) [] pos) X.env = (do
      let ov ← eval o X.env
      standAt apos.atName
      let (f, first) ← holding [ov] (getMethod ov m pl)
      callWith pos f first (backTo pos (starEach (e :: es) X.env)) (backToKw pos (keywordEach [] X.env))) := by rfl) :
    PE X (.Call (.Attribute o m apos) (e :: es) [] pos) (tMethU S m sp ta t) := by
  intro pins s σ H Q I h
  refine PySem.W.methodCall_KW (pl := pl) (thn (he pins s σ H _ I h) fun u s1 ⟨x, H1, I1, rx, C, a, dx, fs, hS, ex, ea, l, q⟩ => ?_) ht
  subst ex
  obtain rfl : u = Value.ref a := rx
  obtain ⟨f, fd, F, hm, hb, c⟩ := M C hS
  refine getmeth_ok I1 ea c hm l ?_
  refine PySem.W.callWith_K (first := [.ref a]) (h₀ := X.base) I.ok.mod.kin hm.kp (thn (ha pos pins s1 σ H1 _ I1 q) fun us s2 ⟨vs, H2, I2, r, q2⟩ => ⟨I2.kIn, ?_⟩) hst hpl
  exact run_fn (us := .ref a :: us) (vs := .ref a :: vs) F hr hb .nil pass0 I2 (.cons rfl r) q2
end
/-! ### texts -/
section
variable {X : Cx}
open Builtin Builtin.Str in
end

theorem for_rangeN {n : Nat} {g : TG} {tb : TS} {D : Ends} {σ : St} {H : Hp} (Pv : Nat → St → Hp → Prop) (h0 : Pv 0 σ H)
    (hs : ∀ (i : Nat) σ H, i < n → Pv i σ H → g (.int (i : Int)) σ H fun σ2 H2 => tb { D with nx := Pv (i + 1), ct := Pv (i + 1), bk := D.nx } σ2 H2) (hd : ∀ σ H, Pv n σ H → D.nx σ H) :
    ∃ W : Nat → Nat → St → Hp → Prop, (∃ m, W 0 m σ H) ∧ ∀ i m σ H, W i m σ H →
      ((Itr 0 n).stop i H ∧ D.nx σ H) ∨ ((Itr 0 n).go i H ∧ ∃ N : St → Hp → Prop, (∀ σ' H', N σ' H' → ∃ m', m' < m ∧ W (i + 1) m' σ' H') ∧ ∀ x H', (Itr 0 n).yld i H x H' → g x σ H' fun σ2 H2 => tb { D with nx := N, ct := N, bk := D.nx } σ2 H2) :=
  for_range (lo := 0) (n := n) Pv h0 (fun i σ H hi p => by rw [Int.zero_add]; exact hs i σ H hi p) hd
theorem lc_rangeN {n : Nat} {cap : St} {tt : TT} {te : TE} {H : Hp} {P : List V → Hp → Prop} (Pv : Nat → List V → Hp → Prop) (h0 : Pv 0 [] H) (hn : n < sizeLine) (hb : ∀ i ys H, Pv i ys H → ys.length ≤ i)
    (hs : ∀ (i : Nat) ys H, i < n → Pv i ys H → tt (some (.int (i : Int)) :: cap) H fun b H3 => if b = true then te (some (.int (i : Int)) :: cap) H3 fun v H4 => Pv (i + 1) (ys ++ [v]) H4 else Pv (i + 1) ys H3) (hd : ∀ ys H, Pv n ys H → P ys H) :
    LcLoop (Itr 0 n) cap tt te H P := lc_range (lo := 0) (n := n) Pv h0 hn hb (fun i ys H hi p => by rw [Int.zero_add]; exact hs i ys H hi p) hd
section
variable {X : Cx} {a e : Expr} {ta te : TE} {apos cpos : Pos}
/-- xs.append(e), xs.extend(e) -/
theorem pe_append (ha : PE X a ta) (he : PE X e te) (hbase : attributeBase a "append" X.env (eval a X.env) = eval a X.env := by rfl)
    (hfew : ((backTo cpos (starEach [e] X.env)).all (fun x => !x.1) && (backToKw cpos (keywordEach [] X.env)).all (fun x => x.1.isSome)
      && decide (([e] : List Expr).length + ([] : List Keyword).length + (if ([] : List Keyword).isEmpty then 0 else 1) < 30)) = true := by rfl)
    (hline : (apos.endLine == cpos.line) = true := by rfl) (hs : starEach [e] X.env = (false, eval e X.env) :: starEach [] X.env := by rfl) (hplain : (backTo cpos (starEach [] X.env)).any (·.1) = false := by rfl) :
    PE X (.Call (.Attribute a "append" apos) [e] [] cpos) (tBM X.K "list" rAppend ta (tCons te tNil)) :=
  pe_bm PySem.F.plainAttrs_list PySem.F.slot_list_append PySem.F.type_list_append mt_append ha (pa_cons he pa_nil hs) hbase hfew hline hs hplain
theorem pe_extend (ha : PE X a ta) (he : PE X e te) (hbase : attributeBase a "extend" X.env (eval a X.env) = eval a X.env := by rfl)
    (hfew : ((backTo cpos (starEach [e] X.env)).all (fun x => !x.1) && (backToKw cpos (keywordEach [] X.env)).all (fun x => x.1.isSome)
      && decide (([e] : List Expr).length + ([] : List Keyword).length + (if ([] : List Keyword).isEmpty then 0 else 1) < 30)) = true := by rfl)
    (hline : (apos.endLine == cpos.line) = true := by rfl) (hs : starEach [e] X.env = (false, eval e X.env) :: starEach [] X.env := by rfl) (hplain : (backTo cpos (starEach [] X.env)).any (·.1) = false := by rfl) :
    PE X (.Call (.Attribute a "extend" apos) [e] [] cpos) (tBM X.K "list" rExtend ta (tCons te tNil)) :=
  pe_bm PySem.F.plainAttrs_list PySem.F.slot_list_extend PySem.F.type_list_extend mt_extend ha (pa_cons he pa_nil hs) hbase hfew hline hs hplain
end
end L2

namespace L2
open PySem PySem.Spec PyProof.Rows
section
variable {X : Cx}
theorem call_rangeR : CallR X (.type "range") (fun xs H Q => ∃ j : Int, xs = [.int j] ∧ ∀ p, H p = none → Q (.ref p) (upd H p (.rng 0 j))) := by
  intro pins s σ H xs us Q I r h
  obtain ⟨j, rfl, q⟩ := h
  obtain ⟨u, rfl, t, rfl⟩ := vals1 r
  refine call_range_1 ⟨.ref s.heap.objs.size, _, I.laid (o := .rng 0 j) (fun b o e => Heap.get?_push_of_some _ e) (Nat.le_refl _) ⟨_, _, _, Heap.get?_push_size _ rfl⟩, rfl, q _ I.fresh⟩
theorem vals_items {F : Nat → Int} : ∀ (l : List Value) (n : Nat), l.length = n → (∀ i v, l[i]? = some v → ∃ t, v = Value.int (F i) t) → Vals ((List.range n).map fun k => V.int (F k)) l := by
  intro l n hl h
  have : ∀ (l : List Value) (k n : Nat), l.length = n → (∀ i v, l[i]? = some v → ∃ t, v = Value.int (F (k + i)) t) → Vals ((List.range' k n).map fun k => V.int (F k)) l := by
    intro l
    induction l with
    | nil => intro k n hl _; subst hl; exact .nil
    | cons a l ih =>
      intro k n hl h
      cases n with
      | zero => cases hl
      | succ n =>
        rw [List.range'_succ, List.map_cons]
        refine .cons ?_ (ih (k + 1) n (by simpa using hl) fun i v e => ?_)
        · exact h 0 a rfl
        · have := h (i + 1) v (by simpa using e)
          rw [Nat.add_assoc, Nat.add_comm 1 i]
          exact this
  rw [List.range_eq_range']
  exact this l 0 n hl fun i v e => by rw [Nat.zero_add]; exact h i v e
theorem call_list_rng (hc : X.calm = true) : CallR X (.type "list") (fun xs H Q => ∃ p hi, xs = [.ref p] ∧ H p = some (.rng 0 hi) ∧ -(2 ^ 62) ≤ hi ∧ hi ≤ 16777216 ∧ ∀ l, H l = none → Q (.ref l) (upd H l (.lst ((List.range hi.toNat).map fun (k : Nat) => V.int (k : Int))))) := by
  intro pins s σ H xs us Q I r h
  obtain ⟨p, hi, rfl, hp, h1, h2, q⟩ := h
  obtain ⟨u, rfl, ru⟩ := vals1 r
  cases ru
  obtain ⟨t, u, v, e⟩ := (show ObjOk X.prog X.w H s.heap p (.rng 0 hi) from I.hok p _ hp)
  have e2 : Builtin.Range.rangeSize 0 hi 1 = ((hi.toNat : Nat) : Int) := by rw [rangeSize_one]; split <;> omega
  refine call_list_range (I.ok.hd hc) e (small_one (by decide) (by decide) h1 (by omega)) e2 (by omega) fun h' tk acc' c' hk hS hacc => ?_
  refine ⟨.ref s.heap.objs.size, _, I.laid (t' := tk) (o := .lst ((List.range hi.toNat).map fun (k : Nat) => V.int (k : Int))) hk (Nat.le_refl _) ⟨?_, acc'.toList, c', ?_, ?_⟩, rfl, q _ I.fresh⟩
  · rw [List.length_map, List.length_range]; show _ ≤ 2 ^ 24; omega
  · refine vals_items (F := fun k => (k : Int)) acc'.toList _ (by simpa using hacc.1) fun i v e => ?_
    obtain ⟨t', rfl⟩ := hacc.2 i v (by simpa using e)
    exact ⟨t', by simp⟩
  · simpa using hS
/-- a list of written ints -/
def intsOf : List Expr → Option (List Int)
  | [] => some []
  | .Constant (.int i) _ _ :: es => (intsOf es).map (i :: ·)
  | _ => none
theorem pa_ints : ∀ {es : List Expr} {ns : List Int}, intsOf es = some ns → PA X es (fun _ H Q => Q (ns.map V.int) H)
  | [], ns, h => by
    cases h
    exact pa_nil
  | e :: es, ns, h => by
    cases e with
    | Constant c k pos =>
      cases c with
      | int i =>
        have h' : (intsOf es).map (i :: ·) = some ns := h
        cases hq : intsOf es with
        | none => rw [hq] at h'; cases h'
        | some ms =>
          rw [hq] at h'
          have e' : i :: ms = ns := Option.some.inj h'
          subst e'
          exact pa_cons (te := tC (.int i)) pe_int (pa_ints hq) rfl
      | _ => cases h
    | _ => cases h
end
end L2

namespace L2
open PySem PySem.Spec PyProof.Rows
section
variable {X : Cx}
theorem vals_bl {bs : List Bool} {us : List Value} (r : Vals (bs.map V.bl) us) {i : Nat} {v : Value} (h : us[i]? = some v) : ∃ b, bs[i]? = some b ∧ v = .bool b := by
  have hl := r.length
  rw [List.length_map] at hl
  have hi : i < bs.length := by have := (List.getElem?_eq_some_iff.mp h).1; omega
  have e : (bs.map V.bl)[i]? = some (V.bl bs[i]) := by simp [hi]
  obtain ⟨u, hu, ru⟩ := r.get e
  rw [h] at hu
  cases hu
  exact ⟨bs[i], by simp [hi], ru⟩
theorem any_range (bs : List Bool) : ((List.range bs.length).any fun i => (bs[i]?).getD false) = bs.any id := by
  rw [Bool.eq_iff_iff, List.any_eq_true, List.any_eq_true]
  constructor
  · rintro ⟨i, hi, e⟩
    have hi' := List.mem_range.mp hi
    rw [List.getElem?_eq_getElem hi'] at e
    exact ⟨_, List.getElem_mem hi', e⟩
  · rintro ⟨b, hb, e⟩
    obtain ⟨i, hi⟩ := List.mem_iff_getElem?.mp hb
    exact ⟨i, List.mem_range.mpr (List.getElem?_eq_some_iff.mp hi).1, by rw [hi]; exact e⟩
theorem call_any (hc : X.calm = true) : CallR X (.builtin "any") (fun xs H Q => ∃ (l : Addr) (bs : List Bool), xs = [.ref l] ∧ SqL X.K H l (bs.map V.bl) ∧ Q (.bl (bs.any id)) H) := by
  intro pins s σ H xs us Q I r h
  obtain ⟨l, bs, rfl, hl, q⟩ := h
  obtain ⟨u, rfl, ru⟩ := vals1 r
  cases ru
  obtain ⟨its, rv, pl, _⟩ := I.list hl
  have hli := pl.isList
  have hlt : l < s.heap.objs.size := by obtain ⟨_, e, _⟩ := hli; exact Heap.lt_size e
  have hlen := rv.length
  rw [List.length_map] at hlen
  refine call_any_walk (wpAny_pyIter_list hli ?_)
  refine ⟨s.heap.objs.size, [s.heap.objs.size, l], [s.heap.objs.size], its.toArray.size, _, _, fun i => (bs[i]?).getD false, rfl, Walks.list (A := X.A.in1) (I.ok.hd hc) _ l (Nat.ne_of_lt hlt) its.toArray,
    ⟨⟨_, Heap.get?_push_size _ rfl, rfl, rfl⟩, hli.push _⟩, fun i v s' Q' E' hP hQ => ?_, fun h' tk hk => ?_⟩
  · obtain ⟨b, e, rfl⟩ := vals_bl rv (i := i) (v := v) (by simpa using hP)
    simp only [e, Option.getD_some] at hQ
    exact wpAny_truthy_bool hQ
  · rw [List.size_toArray, ← hlen, any_range]
    exact ⟨.bl _, H, I.kept (t' := tk) fun b o e => hk b o (fun hm => by rw [List.mem_singleton.mp hm] at e; exact Nat.lt_irrefl _ (Heap.lt_size e)) (Heap.get?_push_of_some _ e), rfl, q⟩
end

/-! ### the same rules where the context is a block's: the written part said -/
section
variable {X : Cx} {K : PySem.W.Frag}
def rIsi (K : PySem.W.Frag) : List V → Hp → VK → Prop := fun xs H Q => ∃ x c t cv b, xs = [x, c] ∧ ClV c cv ∧ TyOf K H x t ∧ PySem.W.kitOne K t cv = some b ∧ Q (.bl b) H
theorem call_isinstK (K : PySem.W.Frag) (hK : X.K = K := by rfl) : CallR X (.builtin "isinstance") (rIsi K) := by subst hK; exact call_isinst
end
end L2

namespace L2
open PySem PySem.Spec PyProof.Rows
/-! ### try, whose body is left as it should be -/
section
variable {X : Cx}
/-! ### sum of a list of ints -/
/-! ### len(set(list of ints)) -/
/-! ### xs[::-1] -/
end
end L2

namespace L2
open PySem PySem.Spec PyProof.Rows
/-! ### a statement and the rest, the rest hidden while the statement is read -/
section
variable {X : Cx} {st : Stmt} {rest : List Stmt} {t u : TS}
end
end L2

namespace L2
open PySem PySem.Spec PyProof.Rows
/-! ### a dict is walked, by its entries -/
section
variable {prog : Program} {w : World} {A : Around} {E : Value → Shared → Prop} {s : Shared} {d it : Addr} {od : Obj} {es : Array DictEntry} {ep i : Nat}
theorem es_iter {Q : Value → Shared → Prop} (nd : (d == sysModules) = false) (hg : s.heap.get? d = some od) (hx : od.ExactDict) (ht : od.data = .dict es ep)
    (q : Q (.ref s.heap.objs.size) { s with heap := s.heap.push { cls := .type "dict_keyiterator", data := .fields #[.ref d, .int 0 0, .int es.size 0, .int ep 0] } }) : wpAny (model prog w) A (pyIter (.ref d)) Q E s := by
  have ty : s.TypeIs (.ref d) "dict" := ⟨od, hg, hx.1⟩
  refine wpAny_pyIter_slot ty F.slot_dict_iter (wpAny_call_entry F.slot_dict_iter ty F.entry_dict_iter ?_ (F.args_dict_iter_1 _))
  unfold Builtin.«dict.__iter__»
  unfold Builtin.Dict.dictSlotNone
  refine wpAny_bind (wpAny_bind (wpAny_notOrdered_dict ty (wpAny_pure ?_)))
  refine (show wpAny _ _ (Builtin.Dict.showsAll d >>= _) _ _ s from ?_)
  unfold Builtin.Dict.showsAll
  rw [if_neg (by rw [nd]; exact Bool.false_ne_true)]
  refine wpAny_bind (wpAny_pure (wpAny_bind (wpAny_dictEntries hg ht (wpAny_bind (wpAny_dictEpoch hg ht ?_)))))
  refine wpAny_bind (wpAny_newObj_type (wpAny_pure ⟨_, rfl, "dict_keyiterator", _, ⟨_, Heap.get?_push_size _ rfl, rfl⟩, F.slot_dict_keyiterator_next.lookup, ?_⟩))
  simpa [rawInt] using q
theorem es_item {Q : Option Value → Shared → Prop} (st : s.heap.IsKeyIter it d i es.size ep) (hg : s.heap.get? d = some od) (ht : od.data = .dict es ep) (lt : i < es.size)
    (q : ∀ h', h'.IsKeyIter it d (i + 1) es.size ep → Heap.SameBut it s.heap h' → Q (some es[i].key) { s with heap := h' }) : wpAny (model prog w) A (pyNext (.ref it)) Q E s := by
  obtain ⟨o, ho, hc, hf⟩ := id st
  have ty := st.typeIs
  unfold pyNext
  refine wpAny_bind (wpAny_attempt (wpAny_callSpecial?_slot (name := Str.ofString "__next__") ty F.slot_dict_keyiterator_next (wpAny_call_entry F.slot_dict_keyiterator_next ty F.entry_dict_keyiterator_next ?_ (F.args_dict_keyiterator_next_1 _))))
  refine wpAny_bind (wpAny_pure (wpAny_bind (wpAny_bind ?_)))
  first | refine wpAny_bind (wpAny_typeNameOfWhole_keyiter ty (wpAny_pure (wpAny_bind (wpAny_fieldsOf ho hf ?_)))) | refine wpAny_bind (wpAny_typeNameOf_keyiter ty (wpAny_pure (wpAny_bind (wpAny_fieldsOf ho hf ?_))))
  simp only [show Builtin.Dict_items.ownsTuple "dict_keyiterator" = false by decide, Bool.false_eq_true, if_false]
  show wpAny _ _ (if (Value.ref d == Value.none) = true then _ else _) _ _ s
  rw [if_neg (show ¬ ((Value.ref d == Value.none) = true) from Bool.false_ne_true)]
  refine wpAny_bind (wpAny_pure (wpAny_bind (wpAny_dictEntries hg ht ?_)))
  rw [if_neg (by simp)]
  refine wpAny_bind (wpAny_pure (wpAny_bind (wpAny_dictEpoch hg ht ?_)))
  rw [if_neg (by simp)]
  refine wpAny_pure ?_
  simp only [show ¬ ((i : Int) < 0) from by omega, if_false, Int.toNat_natCast, Array.getElem?_eq_getElem lt]
  refine wpAny_bind ?_
  first | refine wpAny_bind (wpAny_typeNameOfWhole_keyiter ty (wpAny_pure (wpAny_bind (wpAny_isOneOf_keyiter ty ?_)))) | refine wpAny_bind (wpAny_typeNameOf_keyiter ty (wpAny_pure (wpAny_bind (wpAny_isOneOf_keyiter ty ?_))))
  show wpAny _ _ (setField (.ref it) 1 (rawInt ((i : Int) + 1)) >>= _) _ _ s
  refine wpAny_bind (wpAny_setField ho hf (by simp) ?_)
  have st' : (s.heap.update it (Obj.mapFields (·.setIfInBounds 1 (rawInt ((i : Int) + 1))))).IsKeyIter it d (i + 1) es.size ep :=
    ⟨_, Heap.get?_update_self _ ho (Obj.isFreed_of_fields (Obj.data_mapFields hf _)), (Obj.cls_mapFields ..).trans hc, by rw [Obj.data_mapFields hf]; simp [rawInt]⟩
  refine wpAny_bind (wpAny_holding (wpAny_bind (wpAny_isOneOf_keyiter (s := { s with heap := s.heap.update it (Obj.mapFields (·.setIfInBounds 1 (rawInt ((i : Int) + 1)))) }) st'.typeIs ?_)))
  show wpAny _ _ (pure es[i].key) _ _ _
  exact wpAny_pure (wpAny_pure ⟨_, rfl, wpAny_pure (q _ st' (Heap.SameBut.update ..))⟩)
theorem es_end {Q : Option Value → Shared → Prop} (hh : A.handled = none) (st : s.heap.IsKeyIter it d i es.size ep) (hg : s.heap.get? d = some od) (ht : od.data = .dict es ep) (ge : es.size ≤ i)
    (q : ∀ h', Heap.ExtBut it s.heap h' → Q none { s with heap := h' }) : wpAny (model prog w) A (pyNext (.ref it)) Q E s := by
  obtain ⟨o, ho, hc, hf⟩ := id st
  have ty := st.typeIs
  unfold pyNext
  refine wpAny_bind (wpAny_attempt (wpAny_callSpecial?_slot (name := Str.ofString "__next__") ty F.slot_dict_keyiterator_next (wpAny_call_entry F.slot_dict_keyiterator_next ty F.entry_dict_keyiterator_next ?_ (F.args_dict_keyiterator_next_1 _))))
  refine wpAny_bind (wpAny_pure (wpAny_bind (wpAny_bind ?_)))
  first | refine wpAny_bind (wpAny_typeNameOfWhole_keyiter ty (wpAny_pure (wpAny_bind (wpAny_fieldsOf ho hf ?_)))) | refine wpAny_bind (wpAny_typeNameOf_keyiter ty (wpAny_pure (wpAny_bind (wpAny_fieldsOf ho hf ?_))))
  simp only [show Builtin.Dict_items.ownsTuple "dict_keyiterator" = false by decide, Bool.false_eq_true, if_false]
  show wpAny _ _ (if (Value.ref d == Value.none) = true then _ else _) _ _ s
  rw [if_neg (show ¬ ((Value.ref d == Value.none) = true) from Bool.false_ne_true)]
  refine wpAny_bind (wpAny_pure (wpAny_bind (wpAny_dictEntries hg ht ?_)))
  rw [if_neg (by simp)]
  refine wpAny_bind (wpAny_pure (wpAny_bind (wpAny_dictEpoch hg ht ?_)))
  rw [if_neg (by simp)]
  refine wpAny_pure ?_
  simp only [show ¬ ((i : Int) < 0) from by omega, if_false, Int.toNat_natCast, Array.getElem?_eq_none ge]
  refine wpAny_bind ?_
  first | refine wpAny_bind (wpAny_typeNameOfWhole_keyiter ty (wpAny_pure ?_)) | refine wpAny_bind (wpAny_typeNameOf_keyiter ty (wpAny_pure ?_))
  show wpAny _ _ (setField (.ref it) 0 .none >>= _) _ _ s
  refine wpAny_bind (wpAny_setField ho hf (by simp) ?_)
  show wpAny _ _ (newExc (.type "StopIteration") [] >>= _) _ _ _
  refine wpAny_bind ?_
  simp only [newExc, newTuple]
  refine wpAny_bind (wpAny_newObj_type ?_ (by size_fits))
  refine wpAny_bind (m := firstArgMember _ _) (wpAny_of_eq (a := Value.none) (by first | rfl | (simp only [firstArgMember]; rfl)) (wpAny_newObj_type ?_ (by size_fits)))
  simp only [raiseNew]
  refine wpAny_bind (wpAny_handled ?_)
  rw [show A.in1.handled = none from hh]
  refine wpAny_bind (wpAny_pure (wpAny_throw ?_))
  refine wpAny_bind (wpAny_isInstance (b := true) (T := "StopIteration") ⟨_, Heap.get?_push_size _ rfl, rfl⟩ isSubtype_stop ?_)
  exact wpAny_pure (q _ (((Heap.SameBut.update ..).extBut.push _).push _))
end
/-! ### for k in d, keys tuples; the dict is held fast while it is walked -/
/-- the keys of the dict at a, in their order -/
def Itd (a : Addr) (kvs : List (List Key × V)) (o : Obj) : It :=
  ⟨fun i H => H a = some (.frz o (.dT kvs)) ∧ i < kvs.length, fun i H x H' => H' = H ∧ ∃ b k v, x = .ref b ∧ kvs[i]? = some (k, v) ∧ H b = some (.tup (k.map kV)), fun i H => H a = some (.frz o (.dT kvs)) ∧ kvs.length ≤ i⟩
theorem KT.at {H : Hp} {kvs : List (List Key × V)} {xs : List (List Key × Addr × Value)} (r : KT H kvs xs) {i : Nat} {p : List Key × V} (e : kvs[i]? = some p) : ∃ q, xs[i]? = some q ∧ p.1 = q.1 ∧ H q.2.1 = some (.tup (p.1.map kV)) ∧ RelV p.2 q.2.2 := by
  induction r generalizing i with
  | nil => simp at e
  | cons h _ ih =>
    cases i with
    | zero => simp at e; subst e; exact ⟨_, rfl, h⟩
    | succ i => simpa using ih (by simpa using e)
theorem turn_dt {P : Program} {w : World} {K : PySem.W.Frag} {tg : Expr} (a it : Addr) (kvs : List (List Key × V)) (o : Obj) :
    Turn P w K tg (Itd a kvs o) [it] it (fun i h => ∃ es ep, o.data = .dict es ep ∧ h.IsKeyIter it a i es.size ep) where
  mem := by simp
  obj := fun i h st b hb => by
    have e : b = it := by simpa using hb
    subst e
    obtain ⟨_, _, _, o, e, c, d⟩ := st
    exact ⟨o, e, fun v z => by rw [d] at z; cases z⟩
  keep := fun i h h' ⟨es, ep, e, st⟩ k => ⟨es, ep, e, st.at fun o e => k it (by simp) o e⟩
  item := by
    intro X hP hw hK hc i pins s σ H E I hf st hg
    subst hP hw hK
    obtain ⟨ha, hi⟩ := hg
    obtain ⟨es, ep, ed, st⟩ := st
    obtain ⟨ho, _, _, xs, r, o', es', ep', h1, h2, h3, h4, _⟩ := (show ObjOk X.prog X.w H s.heap a (.frz o (.dT kvs)) from I.hok a _ ha)
    rw [ho] at h1; cases h1
    rw [ed] at h3; cases h3
    obtain ⟨f0, f1, f2, f3, f4, f5⟩ := hf it (by simp)
    have hk : kvs[i]? = some kvs[i] := by simp [hi]
    obtain ⟨q, q1, q2, q3, q4⟩ := KT.at r hk
    have he : es.toList[i]? = some (entryOfKey (tupleKind (mixKind X.prog X.w)) q) := by rw [h4, List.getElem?_map, q1]; rfl
    obtain ⟨hl, he'⟩ := List.getElem?_eq_some_iff.mp he
    have lt : i < es.size := by simpa using hl
    refine es_item st ho ed lt fun h' st' sb => ?_
    have ek : es[i].key = .ref q.2.1 := by
      have : es[i] = entryOfKey (tupleKind (mixKind X.prog X.w)) q := by rw [← he']; simp
      rw [this]; rfl
    rw [ek]
    have I1 : Inv X pins σ H { s with heap := h' } := I.turned (t' := s.toks) (fun b o hb e => (sb.2 b hb).trans e) f0 f1 f3 f4 f5
    obtain ⟨oi, e, c, d⟩ := id st'
    exact ⟨_, rfl, go_of (s := { s with heap := h' }) e c d (by decide) ⟨.ref q.2.1, H, I1, rfl, ⟨rfl, q.2.1, kvs[i].1, kvs[i].2, rfl, hk, q3⟩, ⟨es, ep, ed, st'⟩, fun b hb => (hf b hb).1⟩⟩
  done := by
    intro X hP hw hK hc i pins s σ H E I hf st hg
    subst hP hw hK
    obtain ⟨ha, hi⟩ := hg
    obtain ⟨es, ep, ed, st⟩ := st
    obtain ⟨ho, _, _, xs, r, o', es', ep', h1, h2, h3, h4, _⟩ := (show ObjOk X.prog X.w H s.heap a (.frz o (.dT kvs)) from I.hok a _ ha)
    rw [ho] at h1; cases h1
    rw [ed] at h3; cases h3
    obtain ⟨f0, f1, f2, f3, f4, f5⟩ := hf it (by simp)
    have hl : es.size = kvs.length := by
      have e1 : es.toList.length = xs.length := by rw [h4]; simp
      have e2 := Paired.length r
      simp at e1; omega
    exact es_end (I.ok.hd hc) st ho ed (by omega) fun h' eb => ⟨rfl, I.turned (t' := s.toks) (fun b o hb e => eb b o hb e) f0 f1 f3 f4 f5⟩
  self := fun _ _ _ _ _ ⟨_, _, _, st⟩ h => wpAny_pyIter_keyiter st h
section
variable {X : Cx} {tg : Expr}
/-- the dict is held fast -/
theorem Inv.fastT {pins : List (Addr × Obj)} {σ : St} {H : Hp} {s : Shared} {a : Addr} {kvs : List (List Key × V)} (I : Inv X pins σ H s) (e : H a = some (.dT kvs)) : ∃ o, s.heap.get? a = some o ∧ Inv X pins σ (upd H a (.frz o (.dT kvs))) s := by
  obtain ⟨z, y, xs, r, o, es, ep, h1, h2, h3⟩ := (show ObjOk X.prog X.w H s.heap a (.dT kvs) from I.hok a _ e)
  refine ⟨o, h1, ?_⟩
  refine I.write (x := a) (e := a) (h' := s.heap) (t' := s.toks) (by rw [e]; trivial) (.inl rfl) (fun b u _ q => q) ⟨o, h1⟩ ⟨h1, z, y, xs, Paired.mapP r fun p q t => ⟨t.1, ?_, t.2.2⟩, o, es, ep, h1, h2, h3⟩
  rw [upd_ne (ne_of t.2.1 e (by intro h; cases h))]
  exact t.2.1
def iDt (td : TE) : TI := fun σ H R => td σ H fun x H1 => ∃ a kvs, x = .ref a ∧ ((H1 a = some (.dT kvs) ∧ ∀ o, R (Itd a kvs o) (upd H1 a (.frz o (.dT kvs)))) ∨ ∃ o, H1 a = some (.frz o (.dT kvs)) ∧ R (Itd a kvs o) H1)
theorem pi_dt {l : Expr} {td : TE} (hl : PE X l td) : PI X tg l (iDt td) := by
  intro pins s σ H R I h
  refine thn (hl pins s σ H _ I h) fun v s1 ⟨x, H1, I1, r1, q1⟩ => ?_
  obtain ⟨a, kvs, e, q⟩ := q1
  subst e
  cases r1
  have core : ∀ (o : Obj) (H2 : Hp), Inv X pins σ H2 s1 → H2 a = some (.frz o (.dT kvs)) → R (Itd a kvs o) H2 → wpAny (model X.prog X.w) X.A (pyIter (.ref a)) (PIE X pins σ tg R) X.xe s1 := by
    intro o H2 I2 ha q
    obtain ⟨ho, _, y, xs, r, o', es, ep, h1, h2, h3, h4, _⟩ := (show ObjOk X.prog X.w H2 s1.heap a (.frz o (.dT kvs)) from I2.hok a _ ha)
    rw [ho] at h1; cases h1
    refine es_iter y ho h2 h3 ?_
    refine ⟨s1.heap.objs.size, [s1.heap.objs.size], _, _, H2, rfl, I2.kept (t' := s1.toks) fun b o e => Heap.get?_push_of_some _ e, turn_dt a _ kvs o, ⟨es, ep, h3, _, Heap.get?_push_size _ rfl, rfl, rfl⟩, fun b hb => ?_, q⟩
    have e : b = s1.heap.objs.size := by simpa using hb
    subst e
    exact I2.fpOk (Nat.le_refl _) (I2.hok.fresh (Nat.le_refl _))
  rcases q with ⟨ha, q⟩ | ⟨o, ha, q⟩
  · obtain ⟨o, ho, I2⟩ := I1.fastT ha
    exact core o _ I2 upd_same (q o)
  · exact core o H1 I1 ha q
/-- the loop over a dict's keys, by a word at each turn -/
theorem for_dt {a : Addr} {kvs : List (List Key × V)} {o : Obj} {g : TG} {tb : TS} {D : Ends} {σ : St} {H : Hp} (Pv : Nat → St → Hp → Prop) (h0 : Pv 0 σ H) (hl : ∀ i σ H, i ≤ kvs.length → Pv i σ H → H a = some (.frz o (.dT kvs)))
    (hs : ∀ i k v b σ H, kvs[i]? = some (k, v) → H b = some (.tup (k.map kV)) → Pv i σ H → g (.ref b) σ H fun σ2 H2 => tb { D with nx := Pv (i + 1), ct := Pv (i + 1), bk := D.nx } σ2 H2) (hd : ∀ σ H, Pv kvs.length σ H → D.nx σ H) :
    ∃ W : Nat → Nat → St → Hp → Prop, (∃ m, W 0 m σ H) ∧ ∀ i m σ H, W i m σ H →
      ((Itd a kvs o).stop i H ∧ D.nx σ H) ∨ ((Itd a kvs o).go i H ∧ ∃ N : St → Hp → Prop, (∀ σ' H', N σ' H' → ∃ m', m' < m ∧ W (i + 1) m' σ' H') ∧ ∀ x H', (Itd a kvs o).yld i H x H' → g x σ H' fun σ2 H2 => tb { D with nx := N, ct := N, bk := D.nx } σ2 H2) := by
  refine ⟨fun i m σ H => m = kvs.length - i ∧ i ≤ kvs.length ∧ Pv i σ H, ⟨kvs.length, by simp, Nat.zero_le _, h0⟩, ?_⟩
  rintro i m σ H ⟨rfl, hi, p⟩
  have q := hl i σ H hi p
  by_cases lt : i < kvs.length
  · refine .inr ⟨⟨q, lt⟩, Pv (i + 1), fun σ' H' p' => ⟨kvs.length - (i + 1), by omega, rfl, lt, p'⟩, fun x H' y => ?_⟩
    obtain ⟨rfl, b, k, v, rfl, e, hb⟩ := y
    exact hs i k v b σ _ e hb p
  · have e : i = kvs.length := by omega
    subst e
    exact .inl ⟨⟨q, Nat.le_refl _⟩, hd σ H p⟩
end
/-! ### {k: v}, the key a tuple -/
section
variable {X : Cx} {k v : Expr} {tk tv : TE} {pos : Pos}
def tDisp1T (tk tv : TE) : TE := fun σ H Q => ∀ p, H p = none → tk σ (upd H p (.dT [])) fun x H1 => tv σ H1 fun y H2 => ∃ ks b, x = .ref b ∧ H2 b = some (.tup (ks.map kV)) ∧ H2 p = some (.dT []) ∧ Q (.ref p) (upd H2 p (.dT [(ks, y)]))
theorem pe_disp1T (hu : X.A.units < cLine) (hk : PE X k tk) (hv : PE X v tv) : PE X (.Dict [some k] [v] pos) (tDisp1T tk tv) := by
  intro pins s σ H Q I q
  have hn := I.hok.fresh (Nat.le_refl s.heap.objs.size)
  have I1 := I.laid (a := s.heap.objs.size) (o := .dT []) (t' := s.toks) (fun _ _ q => Heap.get?_push_of_some _ q) (Nat.le_refl _) (dt_empty s.heap I.big)
  refine wpAny_Dict_any rfl rfl (by simp) (by simp) (pairTrees_cons_walk (thn (hk pins _ σ _ _ I1 (q _ hn)) fun u s1 ⟨x, H1, I1, rx, q1⟩ => thn (hv pins s1 σ H1 _ I1 q1) fun u2 s2 ⟨y, H2, I2, ry, q2⟩ => pairTrees_nil_walk ?_))
  obtain ⟨ks, b, rfl, eb, ep, q3⟩ := q2
  cases (show u = Value.ref b from rx)
  obtain ⟨z, hd, xs, rel, dd⟩ := dt_of I2.hok ep
  cases rel
  unfold storeAll
  rw [List.forIn_cons]
  refine wpAny_bind (wpAny_bind (wpAny_dictSet_heap (v := u2) (by exact hu) (key_of I2.hok eb) dd fun h' dd' hs => wpAny_pure ?_))
  dsimp only
  rw [List.forIn_nil]
  refine wpAny_pure ⟨.ref s.heap.objs.size, _, ?_, rfl, q3⟩
  obtain ⟨o, es, e2, hq, h2, h3, h4, _, h5⟩ := dd'
  refine d_write I2 (by rw [ep]; exact True.intro) hs ⟨o, hq⟩ ⟨by rw [sizeLine_eq]; simp, hd, _, .cons ⟨rfl, ?_, ry⟩ .nil, o, es, e2, hq, h2, h3, h4, h5⟩
  rw [upd_ne (ne_of eb ep (fun z => nomatch z))]
  exact eb
end
/-! ### list(d), the keys tuples -/
section
variable {P : Program} {w : World} {A : Around} {I d : Addr} {od : Obj} {es : Array DictEntry} {ep : Nat}
theorem walks_es (hh : A.handled = none) (hne : d ≠ I) (ht : od.data = .dict es ep) :
    Walks P w A I [I, d] [I] es.size (fun i v => ∃ h : i < es.size, v = es[i].key) (fun i h => h.IsKeyIter I d i es.size ep ∧ h.get? d = some od) where
  sub := fun b hb => by simp at hb; simp [hb]
  frame := fun _ _ _ st hk => ⟨st.1.at fun o e => hk I (by simp) o e, hk d (by simp) od st.2⟩
  item := fun i s Q E hi st hQ => es_item st.1 st.2 ht hi fun h' st' sb => hQ _ h' s.toks ⟨hi, rfl⟩ ⟨st', (sb.2 d hne).trans st.2⟩ fun b o hb e => (sb.2 b fun z => hb (by simp [z])).trans e
  done := fun s Q E st hQ => es_end hh st.1 st.2 ht (Nat.le_refl _) fun h' he => hQ h' s.toks fun b o hb e => he b o (fun z => hb (by simp [z])) e
  self := fun _ _ _ _ st hQ => wpAny_pyIter_keyiter st.1 hQ
theorem src_es (nd : (d == sysModules) = false) (hx : od.ExactDict) (ht : od.data = .dict es ep) : PySem.W.KdlSrc P w "dict" d d es.size (fun i v => ∃ h : i < es.size, v = es[i].key) (fun h => h.get? d = some od) where
  type := fun s hm => ⟨od, hm, hx.1⟩
  there := fun h hm => ⟨Heap.lt_size hm, Heap.lt_size hm⟩
  keep := fun h h' hm hk => hk d (.inl rfl) od hm
  notList := by decide
  notTuple := by decide
  hint := fun _ _ s _ hm hq => PySem.W.kdl_hint_dict (⟨od, hm, hx.1⟩ : s.TypeIs (.ref d) "dict") hq
  iter := fun A s hh hm => ⟨_, _, (fun E Q q => es_iter nd hm hx ht q), walks_es hh (Nat.ne_of_lt (Heap.lt_size hm)) ht, ⟨⟨_, Heap.get?_push_size _ rfl, rfl, rfl⟩, Heap.get?_push_of_some _ hm⟩⟩
end
section
variable {X : Cx}
theorem vals_refs : ∀ (xs : List (List Key × Addr × Value)), Vals (xs.map fun q => V.ref q.2.1) (xs.map fun q => Value.ref q.2.1)
  | [] => .nil
  | _ :: xs => .cons rfl (vals_refs xs)
end
/-! ### a new object at a place where none stood -/
section
variable {P : Program} {w : World} {H : Hp} {h h' : Heap} {a : Addr} {o : HO}
theorem ObjOk.there : ∀ {o : HO}, ObjOk P w H h a o → ∃ ob, h.get? a = some ob
  | .lst _, ⟨_, _, _, _, e⟩ => ⟨_, e⟩
  | .tup _, ⟨_, _, _, _, e, _⟩ => ⟨_, e⟩
  | .dK _, ⟨_, _, _, _, _, _, _, e, _⟩ => ⟨_, e⟩
  | .dT _, ⟨_, _, _, _, _, _, _, e, _⟩ => ⟨_, e⟩
  | .set _ _, ⟨_, _, _, _, e, _⟩ => ⟨_, e⟩
  | .ins _ _ _, ⟨_, _, _, e, _⟩ => ⟨_, e⟩
  | .own _, ⟨_, e⟩ => ⟨_, e⟩
  | .xd _, ⟨_, ⟨_, _, _, e, _⟩, _⟩ => ⟨_, e⟩
  | .rng _ _, ⟨_, _, _, e⟩ => ⟨_, e⟩
  | .frz _ _, ⟨e, _⟩ => ⟨_, e⟩
  | .tbl _, e => ⟨_, e⟩
  | .met _ _, e => ⟨_, e⟩
  | .ext _, ⟨_, e, _⟩ => e
theorem HOk.noneAt (x : HOk P w H h) (na : h.get? a = none) : H a = none := by
  cases q : H a with
  | none => rfl
  | some u => obtain ⟨_, e⟩ := (x a u q).there; rw [na] at e; cases e
theorem HOk.laidAt (x : HOk P w H h) (k : ∀ b u, h.get? b = some u → h'.get? b = some u) (na : h.get? a = none) (new : ObjOk P w (upd H a o) h' a o) : HOk P w (upd H a o) h' := fun b u e => by
  have hn := x.noneAt na
  by_cases hb : b = a
  · subst hb
    rw [upd_same] at e
    cases e
    exact new
  · rw [upd_ne hb] at e
    exact (x b u e).stay (fun c v _ q => k c v q) (fun c q => by rw [upd_ne (ne_of_none q hn), q]) fun c xs q => by rw [upd_ne (ne_of_none q hn), q]
theorem Un.laidAt {fs ex : List Addr} (k : ∀ b u, h.get? b = some u → h'.get? b = some u) (na : h.get? a = none) (hn : H a = none) : Un fs ex H (upd H a o) h h' :=
  ⟨fun b u q _ _ _ => k b u q, fun b u q _ _ _ => ⟨u.slots, k b u q⟩, fun b u q n _ => by rw [upd_ne (fun z => by subst z; rw [na] at q; cases q)]; exact n, fun b u q _ => ⟨u, k b u q⟩,
    fun b xs q => by rw [upd_ne (ne_of_none q hn), q], fun b u xs q => by rw [upd_ne (ne_of_none q hn), q], fun b ps q => ⟨#[], by rw [upd_ne (ne_of_none q hn), q]; simp⟩⟩
end
theorem Inv.laidAt {X : Cx} {pins : List (Addr × Obj)} {σ : St} {H : Hp} {s : Shared} {h' : Heap} {a : Addr} {o : HO} {t' : Nat} (I : Inv X pins σ H s) (k : ∀ b u, s.heap.get? b = some u → h'.get? b = some u) (na : s.heap.get? a = none)
    (new : ObjOk X.prog X.w (upd H a o) h' a o) : Inv X pins σ (upd H a o) { s with heap := h', toks := t' } := I.un (Un.laidAt k na (I.hok.noneAt na)) (I.hok.laidAt k na new)
theorem none_at {h h' : Heap} (k : ∀ b u, h.get? b = some u → h'.get? b = some u) : h.get? h'.objs.size = none := by
  cases q : h.get? h'.objs.size with
  | none => rfl
  | some u => exact absurd (Heap.lt_size (k _ _ q)) (Nat.lt_irrefl _)
/-! ### sorted(d), the keys ints -/
section
variable {X : Cx}
theorem ints_vals : ∀ {vs : List Value} {ns : List Int}, IntsAre vs ns → Vals (ns.map V.int) vs
  | _, _, .nil => .nil
  | _, _, .cons n t r => .cons ⟨t, rfl⟩ (ints_vals r)
theorem ints_items : ∀ (l : List Value) (ks : List Int), l.length = ks.length → (∀ j v, l[j]? = some v → ∃ t, v = Value.int (ks.getD j 0) t) → IntsAre l ks
  | [], [], _, _ => .nil
  | [], _ :: _, h, _ => by simp at h
  | _ :: _, [], h, _ => by simp at h
  | v :: l, k :: ks, h, f => by
    obtain ⟨t, e⟩ := f 0 v rfl
    subst e
    exact .cons k t (ints_items l ks (by simpa using h) fun j v e => f (j + 1) v (by simpa using e))
def rSortK (H : Hp) (a : Addr) (ks : List Int) : Prop := ∃ kvs, Rd H a (.dK kvs) ∧ kvs.map (·.1) = ks.map Sum.inl
theorem call_sorted_dk (hc : X.calm = true) : CallR X (.builtin "sorted") (fun xs H Q => ∃ (a : Addr) (ks : List Int), xs = [.ref a] ∧ rSortK H a ks ∧ ks.length < 64 ∧
    ∀ (l : Addr) (ys : List Int), H l = none → ys.Perm ks → ys.Pairwise (· ≤ ·) → Q (.ref l) (upd H l (.lst (ys.map V.int)))) := by
  intro pins s σ H xs us Q I r h
  obtain ⟨a, ks, rfl, ⟨kvs, ha, ek⟩, h64, q⟩ := h
  obtain ⟨u, rfl, rx⟩ := vals1 r
  cases rx
  obtain ⟨z, y, vs, rel, dd⟩ := dk_rd I.hok ha
  obtain ⟨ep, da⟩ := dd.dictAt
  have lk : kvs.length = ks.length := by have := congrArg List.length ek; simpa using this
  have lv : kvs.length = vs.length := Paired.length rel
  have ev : ∀ {l : List (Key × V)} {m : List (Key × Value)}, KV l m → l.map (·.1) = m.map (·.1) := by
    intro l m r
    unfold KV at r
    induction r with
    | nil => rfl
    | cons h _ ih => rw [List.map_cons, List.map_cons, ih, h.1]
  refine PySem.Calls.call_function_entry kind_sorted plain_sorted entry_sorted (args_sorted1 _) ?_
  unfold Builtin.«sorted»
  refine wpAny_bind (m := checkCount "sorted" 1 1 _) (wpAny_pure (wpAny_bind (PySem.W.kdu_collect (A := X.A.in1) (PySem.W.kdl_dict y) (I.ok.hd hc) da (by omega) fun h' tk acc hk hacc => ?_)))
  have hl : acc.toList.length = ks.length := by rw [Array.length_toList]; have := hacc.1; omega
  have hI : IntsAre acc.toList ks := by
    refine ints_items _ _ hl fun j v e => ?_
    obtain ⟨k, x, e1, e2⟩ := hacc.2 j v (by rw [← Array.getElem?_toList]; exact e)
    have e3 : (vs.map (·.1))[j]? = some k := by rw [List.getElem?_map, e1]; rfl
    rw [← ev rel, ek, List.getElem?_map] at e3
    obtain ⟨i, e4, e5⟩ := Option.map_eq_some_iff.mp e3
    subst e5
    obtain ⟨t, e6⟩ := Value.isInt_shape (k := i) (v := v) e2
    exact ⟨t, by rw [e6, List.getD_eq_getElem?_getD, e4]; rfl⟩
  refine wpAny_bind (wpAny_newList ?_ (by rw [hl]; show _ ≤ 2 ^ 24; omega))
  have ho : (h'.push { cls := .type "list", data := .seq acc.toList.toArray }).get? h'.objs.size = some (seqObj "list" acc.toList.toArray 0) := Heap.get?_push_size _ rfl
  refine wpAny_bind (wpAny_holding (wpAny_call_entry slot_list_sort ⟨_, ho, rfl⟩ entry_list_sort (list_sort_tree (n := 0) (vs := acc.toList) ho hI (by omega) fun out ns' hI' hp hP => ⟨.none, rfl, ?_⟩) (args_list_sort _)))
  refine wpAny_pure ⟨_, rfl, .ref h'.objs.size, _, ?_, rfl, q _ ns' (I.hok.noneAt (none_at hk)) hp hP⟩
  obtain ⟨e, he⟩ := sortedHeap_at (out := out) ho
  refine I.laidAt (t' := tk) (fun b u e => ?_) (none_at hk) ⟨?_, out.toList, e, ints_vals hI', by rw [Array.toArray_toList]; exact he⟩
  · have e1 := hk b u e
    have lt := Heap.lt_size e1
    rw [sortedHeap_old (Nat.ne_of_lt lt) (by rw [size_push']; exact Nat.lt_succ_of_lt lt)]
    exact Heap.get?_push_of_some _ e1
  · have := hp.length_eq
    rw [List.length_map]
    show _ ≤ 2 ^ 24
    omega
end
end L2

namespace L2
open PySem PySem.Spec PyProof.Rows
/-! ### list(it), it an iterator -/
section
variable {prog : Program} {w : World} {A : Around} {E : Value → Shared → Prop} {s : Shared} {T : String} {it S : Addr} {fp : List Addr} {n : Nat} {P : Nat → Value → Prop} {St : Nat → Heap → Prop}
end
/-! ### list(reversed(xs)) -/
section
variable {X : Cx}
end
end L2

namespace L2
open PySem PySem.Spec PyProof.Rows
section
variable {X : Cx}
/-! ### max of a list of ints -/
inductive I_maxL (K : PySem.W.Frag) (xs : List V) (H : Hp) (Q : VK) : Prop where
  | mk (a : Addr) (ns : List Int) (h0 : xs = [.ref a]) (h1 : SqL K H a (ns.map V.int)) (h2 : 0 < ns.length) (h3 : ∀ M, M ∈ ns → (∀ x ∈ ns, x ≤ M) → Q (.int M) H) : I_maxL K xs H Q
/-! ### list(range(i, j, k)) -/
inductive I_rngL (Q : VK) (vs : List V) (H : Hp) : Prop where
  | mk (i j k : Int) (n : Nat) (h0 : vs = [.int i, .int j, .int k]) (h1 : k ≠ 0) (h2 : Builtin.Range.small i j k = true) (h3 : Builtin.Range.rangeSize i j k = n) (h4 : n ≤ 2 ^ 24) (h5 : Builtin.divisionGoesByPylong (j - i) k = false)
    (h6 : ∀ l, H l = none → Q (.ref l) (upd H l (.lst ((List.range n).map fun (m : Nat) => V.int (i + m * k))))) : I_rngL Q vs H
end
end L2

namespace L2
open PySem PySem.Spec PyProof.Rows
/-! ### list(d.items()), by the entries -/
section
variable {prog : Program} {w : World} {A : Around} {E : Value → Shared → Prop} {s : Shared} {d it S : Addr} {od : Obj} {es : Array DictEntry} {ep i : Nat}
end
/-! ### many new objects at once -/
section
variable {P : Program} {w : World} {H nw : Hp} {h h' : Heap}
end
/-! ### the rule -/
section
variable {X : Cx}
/-- the tuples at ys are the pairs of kvs -/
def PairsT (H : Hp) : List V → List (List Key × V) → Prop := Paired fun y kv => ∃ t b, y = .ref t ∧ H t = some (.tup [.ref b, kv.2]) ∧ H b = some (.tup (kv.1.map kV))
inductive I_itemsL (Q : VK) (x : V) (H : Hp) : Prop where
  | mk (a : Addr) (kvs : List (List Key × V)) (h0 : x = .ref a) (h1 : Rd H a (.dT kvs)) (h2 : ∀ (l : Addr) (H' : Hp) (ys : List V), (∀ b o, H b = some o → H' b = some o) → H l = none → H' l = some (.lst ys) → PairsT H' ys kvs → Q (.ref l) H') : I_itemsL Q x H
end
end L2

namespace L2
open PySem PySem.Spec PyProof.Rows
/-! ### for k in d, the dict free or held fast already -/
section
variable {X : Cx} {tg : Expr}
end
end L2

namespace L2
open PySem PySem.Spec PyProof.Rows
/-! ### sorted, by the answers that its questions get -/
section
variable {α : Type}
end
section
variable {prog : Program} {w : World} {A : Around} {E : Value → Shared → Prop} {s : Shared}
theorem sort_few {a : Addr} {vs : List Value} {n : Nat} {P : PySem.Fin → Shared → Prop} (ho : s.heap.get? a = some (seqObj "list" vs.toArray n)) (h2 : vs.length < 2)
    (h : P (.done (.ret .none)) { s with heap := sortedHeap s.heap a vs vs.toArray }) : wpAny (model prog w) A (Builtin.«list.sort» ⟨[.ref a], []⟩) P E s := by
  rw [list_sort_plain]
  have ha : a < s.heap.objs.size := Heap.lt_size ho
  refine wpAny_bind (listItems_at ho rfl ?_)
  refine wpAny_bind (listUpdate_at ho rfl ?_)
  obtain ⟨e1, ho1⟩ : ∃ e1, (s.heap.update a (Obj.mapSeq fun _ => #[])).get? a = some (seqObj "list" #[] e1) := ⟨_, get?_update_seq ho (fun _ => #[])⟩
  refine wpAny_bind (seqEpoch_at ho1 rfl ?_)
  refine wpAny_bind (wpAny_newTuple ?_)
  refine wpAny_bind (wpAny_newList ?_)
  refine wpAny_holding ?_
  have ho6 : (((s.heap.update a (Obj.mapSeq fun _ => #[])).push (seqObj "tuple" vs.toArray 0)).push (seqObj "list" #[] 0)).get? a = some (seqObj "list" #[] e1) := by
    rw [Heap.get?_push_ne _ _ _ (by rw [size_push', Heap.size_update]; exact Nat.ne_of_lt (Nat.lt_succ_of_lt ha)), Heap.get?_push_ne _ _ _ (by rw [Heap.size_update]; exact Nat.ne_of_lt ha)]
    exact ho1
  show wpAny (model prog w) A _ P E { s with heap := ((s.heap.update a (Obj.mapSeq fun _ => #[])).push (seqObj "tuple" vs.toArray 0)).push (seqObj "list" #[] 0) }
  dsimp only
  have hsz : vs.toArray.size = vs.length := by simp
  have n2 : vs.toArray.size < 2 := by omega
  have hm : (vs.toArray.zip vs.toArray).map (·.2) = vs.toArray := by
    apply Array.toList_inj.mp
    simp only [Array.toList_map, Array.toList_zip]
    exact List.map_snd_zip (Nat.le_refl _)
  rw [if_pos n2, if_pos n2]
  refine wpAny_bind (wpAny_pure ?_)
  rw [StateT.run_pure]
  refine wpAny_bind (wpAny_pure ?_)
  dsimp only
  refine wpAny_bind (seqEpoch_at ho6 rfl ?_)
  refine wpAny_bind (listUpdate_at ho6 rfl ?_ (hsz2 := by show ((vs.toArray.zip vs.toArray).map (·.2)).size ≤ _; rw [hm, hsz, sizeLine_eq]; omega))
  simp only [bne_self_eq_false, Bool.false_eq_true, if_false]
  refine wpAny_pure ?_
  show P (.done (.ret .none)) { s with heap := sortedHeap s.heap a vs ((vs.toArray.zip vs.toArray).map (·.2)) }
  rw [hm]
  exact h
end
theorem vals_get {xs : List V} {us : List Value} (r : Vals xs us) {i : Nat} {x : V} (e : xs[i]? = some x) : ∃ u, us[i]? = some u ∧ RelV x u := by
  obtain ⟨u, h1, h2⟩ := r.get e
  exact ⟨u, h1, h2⟩
section
variable {X : Cx} {β : Type}
end
end L2

namespace HT
open PySem PyProof.Rows
open PySem.SeqAt
open PySem.AutoSeq1 (wpAny_loadPart')
open PySem.MeetsSeq PySem.MeetsSeq2 PySem.MeetsSeq3
end HT
namespace L2
open PySem PySem.Spec PyProof.Rows
section
variable {prog : Program} {w : World} {A : Around} {E : Value → Shared → Prop} {s : Shared}
theorem katlex_ints {Q : Bool → Shared → Prop} : ∀ {xs ys : List Value} {ns ms : List Int} {i : Nat} {fin : Bool}, IntsAre xs ns → IntsAre ys ms → Q (HT.lexLt ns ms) s → (xs.length ≤ ys.length ∨ ys.length ≤ xs.length) → (fin = decide (xs.length < ys.length)) → PySem.W.KatLex prog w A true fin Q (xs.zip ys) i s
  | _, _, _, _, _, _, .nil, .nil, q, _, hf => by subst hf; exact PySem.W.kat_nil q
  | _, _, _, _, _, _, .nil, .cons _ _ _, q, _, hf => by subst hf; exact PySem.W.kat_nil q
  | _, _, _, _, _, _, .cons _ _ _, .nil, q, _, hf => by subst hf; exact PySem.W.kat_nil q
  | _, _, _, _, i, fin, .cons a t r, .cons b u r', q, _, hf => by
    refine PySem.W.kat_cons (wpAny_eqBool_int ?_)
    rw [HT.lexLt_cons] at q
    by_cases e : a = b
    · rw [if_pos e] at q
      have : (a == b) = true := by simp [e]
      rw [this]
      exact PySem.W.kat_yes (katlex_ints r r' q (by omega) (by rw [hf]; simp))
    · rw [if_neg e] at q
      have : (a == b) = false := by simp [e]
      rw [this]
      refine PySem.W.kat_no ?_
      by_cases z : (true && i == 0) = true
      · rw [z]
        exact oneLt_int q
      · have z' : (true && i == 0) = false := by simpa using z
        rw [z']
        exact PySem.W.kat_one _ _ (PyProof.Rows.lt_int (by exact q))
end
section
variable {X : Cx}
def isTup (H : Hp) : V → List Int → Prop := fun v st => ∃ a, v = .ref a ∧ H a = some (.tup (st.map V.int))
theorem katTups_of {pins : List (Addr × Obj)} {s : Shared} {σ : St} {H : Hp} (I : Inv X pins σ H s) : ∀ {vs : List V} {its : List Value} {sts : List (List Int)}, Vals vs its → Paired (isTup H) vs sts → (∀ st ∈ sts, st ≠ []) →
    ∃ fs, PySem.W.KatTups s.heap its fs ∧ fs.length = its.length ∧ ∀ f ∈ fs, ∃ i t, f = Value.int i t
  | _, _, _, .nil, .nil, _ => ⟨[], .nil, rfl, fun _ h => nomatch h⟩
  | _, _, st :: _, .cons r rs, .cons ⟨a, e, ha⟩ ps, hn => by
    obtain ⟨fs, h1, h2, h3⟩ := katTups_of I rs ps fun st hs => hn st (List.mem_cons_of_mem _ hs)
    subst e
    cases r
    obtain ⟨us, ru, pl, _⟩ := I.tuple (SqT.of (K := X.K) ha)
    obtain ⟨o, ho, hc, n, hd⟩ := id pl
    have hi := intsAre_of ru
    cases hst : st with
    | nil => exact absurd hst (hn st List.mem_cons_self)
    | cons i st' =>
      rw [hst] at hi
      cases hi with
      | cons _ t r' => exact ⟨Value.int i t :: fs, .cons ho hc hd (by simp) h1, by simp [h2], fun f hf => by
          rcases List.mem_cons.mp hf with rfl | hf
          · exact ⟨i, t, rfl⟩
          · exact h3 f hf⟩
end
end L2

namespace L2
open PySem PySem.Spec PyProof.Rows
/-! ### for x in reversed(xs) -/
section
variable {X : Cx} {tg : Expr}
end
end L2

namespace TS
open PySem PyProof.Rows
structure Wl (n : Nat) (c : Nat → Nat → Bool) where
  prog : Program
  w : World
  A : Around
  E : Value → Shared → Prop
  s : Shared
  κ : SortKind
  it : Nat → Keyed
  ok : ∀ i j, i < n → j < n → ∀ C : Bool → Shared → Prop, C (c i j) s → wpAny (model prog w) A (keyLt' κ (it i).1 (it j).1) C (fun _ _ => False) s
structure AS where
  p : Array Nat
  pend : Array (Nat × Nat × Nat)
  gal : Nat
section
variable {n : Nat} {c : Nat → Nat → Bool} {α β : Type}
def St (W : Wl n c) (a : AS) : SortSt := SortSt.mk' W.κ (a.p.map W.it) a.pend a.gal none
/-- one end for all worlds -/
def Ex (m : Wl n c → StateT SortSt Sem α) (a : AS) (R : (Wl n c → α) → AS → Prop) : Prop :=
  ∃ v a', R v a' ∧ ∀ (W : Wl n c) (Q : α → SortSt → Prop), Q (v W) (St W a') → wpS (model W.prog W.w) W.A W.E W.s (m W) Q (St W a)
theorem Ex.mono {m : Wl n c → StateT SortSt Sem α} {a : AS} {R R' : (Wl n c → α) → AS → Prop} (h : Ex m a R) (k : ∀ v a', R v a' → R' v a') : Ex m a R' := by
  obtain ⟨v, a', r, e⟩ := h
  exact ⟨v, a', k _ _ r, e⟩
theorem ex_pure {v : Wl n c → α} {a : AS} {R : (Wl n c → α) → AS → Prop} (h : R v a) : Ex (fun W => pure (v W)) a R := ⟨v, a, h, fun _ _ q => wpS_pure q⟩
theorem ex_bind {m : Wl n c → StateT SortSt Sem α} {f : Wl n c → α → StateT SortSt Sem β} {a : AS} {R : (Wl n c → β) → AS → Prop} (h : Ex m a fun v a' => Ex (fun W => f W (v W)) a' R) : Ex (fun W => m W >>= f W) a R := by
  obtain ⟨v, a', ⟨u, a'', r, e'⟩, e⟩ := h
  exact ⟨u, a'', r, fun W Q q => wpS_bind (e W _ (e' W Q q))⟩

theorem ex_ite {P : Prop} {D : Wl n c → Decidable P} {x y : Wl n c → StateT SortSt Sem α} {a : AS} {R : (Wl n c → α) → AS → Prop} (h1 : P → Ex x a R) (h2 : ¬ P → Ex y a R) : Ex (fun W => @ite _ P (D W) (x W) (y W)) a R := by
  by_cases h : P
  · simp only [if_pos h]; exact h1 h
  · simp only [if_neg h]; exact h2 h
theorem ex_get {a : AS} {R : (Wl n c → SortSt) → AS → Prop} (h : R (fun W => (sortPriv% PySem.Builtin.SortState.mk) W.κ (a.p.map W.it) a.pend a.gal none) a) : Ex (fun _ => (get : StateT SortSt Sem SortSt)) a R := ⟨_, a, h, fun _ _ q => wpS_get q⟩
theorem ex_modify {f : Wl n c → SortSt → SortSt} {a a' : AS} {R : (Wl n c → PUnit) → AS → Prop} (e : ∀ W, f W (St W a) = St W a') (h : R (fun _ => ⟨⟩) a') : Ex (fun W => (modify (f W) : StateT SortSt Sem PUnit)) a R := ⟨_, a', h, fun W Q q => wpS_modify (by rw [e W]; exact q)⟩
theorem ex_rule {i : String} {a : AS} {R : (Wl n c → Unit) → AS → Prop} (h : R (fun _ => ()) a) : Ex (fun _ => (liftM (rule i) : StateT SortSt Sem Unit)) a R := ⟨_, a, h, fun _ _ q => wpS_lift (wpAny_rule ⟨rfl, q⟩)⟩
theorem map_get {o : Array Nat} {f : Nat → Keyed} {i : Nat} (h : i < o.size) : (o.map f)[i]? = some (f (o.getD i 0)) := by
  have e : o.getD i 0 = o[i] := by simp [Array.getD, h]
  rw [e]; simp [h]
theorem ex_elem {o : Array Nat} {i : Nat} {a : AS} {R : (Wl n c → Keyed) → AS → Prop} (hi : i < o.size) (h : R (fun W => W.it (o.getD i 0)) a) : Ex (fun W => (sortPriv% PySem.Builtin.elem) (o.map W.it) i) a R := by
  refine ⟨_, a, h, fun W Q q => ?_⟩
  show wpS _ _ _ _ (elem' (o.map W.it) i) _ _
  rw [elem'_eq, map_get hi]
  exact wpS_pure q
theorem ex_lt {i j : Nat} {a : AS} {R : (Wl n c → Option Bool) → AS → Prop} (hi : i < n) (hj : j < n) (h : R (fun _ => some (c i j)) a) : Ex (fun W => (sortPriv% PySem.Builtin.lt) (W.it i) (W.it j)) a R := by
  refine ⟨_, a, h, fun W Q q => ?_⟩
  show wpS _ _ _ _ (lt' (W.it i) (W.it j)) _ _
  rw [lt'_eq]
  refine wpS_bind (wpS_get ?_)
  refine wpS_bind (wpS_lift (wpAny_attempt (wpAny_mono (W.ok i j hi hj (fun b s' => s' = W.s ∧ b = c i j) ⟨rfl, rfl⟩) (fun b s' hb => ?_) fun _ _ e => e.elim)))
  obtain ⟨rfl, rfl⟩ := hb
  exact ⟨rfl, wpS_pure q⟩
theorem ex_forList (f : Wl n c → Nat → β → StateT SortSt Sem (ForInStep β)) (I : List Nat → (Wl n c → β) → AS → Prop) (R : (Wl n c → β) → AS → Prop)
    (hstep : ∀ x rest v a, I (x :: rest) v a → Ex (fun W => f W x (v W)) a (fun r a' => (∃ v', (∀ W, r W = .done (v' W)) ∧ R v' a') ∨ ∃ v', (∀ W, r W = .yield (v' W)) ∧ I rest v' a')) (hend : ∀ v a, I [] v a → R v a) :
    ∀ (l : List Nat) (v : Wl n c → β) (a : AS), I l v a → Ex (fun W => forIn l (v W) (f W)) a R
  | [], v, a, h => ⟨v, a, hend _ _ h, fun W Q q => by dsimp only; rw [List.forIn_nil]; exact wpS_pure q⟩
  | x :: rest, v, a, h => by
    obtain ⟨r, a', hr, e⟩ := hstep x rest v a h
    rcases hr with ⟨v', ev, hR⟩ | ⟨v', ev, hI⟩
    · refine ⟨v', a', hR, fun W Q q => ?_⟩
      dsimp only
      rw [List.forIn_cons]
      refine wpS_bind (e W _ ?_)
      rw [ev W]
      exact wpS_pure q
    · obtain ⟨u, a'', hR, e'⟩ := ex_forList f I R hstep hend rest v' a' hI
      refine ⟨u, a'', hR, fun W Q q => ?_⟩
      dsimp only
      rw [List.forIn_cons]
      refine wpS_bind (e W _ ?_)
      rw [ev W]
      exact e' W Q q
theorem ex_for {f : Wl n c → Nat → β → StateT SortSt Sem (ForInStep β)} {a0 b0 : Nat} {v : Wl n c → β} {a : AS} (I : Nat → (Wl n c → β) → AS → Prop) (R : (Wl n c → β) → AS → Prop) (h : I a0 v a)
    (hstep : ∀ i v a, a0 ≤ i → i < b0 → I i v a → Ex (fun W => f W i (v W)) a (fun r a' => (∃ v', (∀ W, r W = .done (v' W)) ∧ R v' a') ∨ ∃ v', (∀ W, r W = .yield (v' W)) ∧ I (i + 1) v' a'))
    (hend : ∀ v a, I (max a0 b0) v a → R v a) : Ex (fun W => forIn [a0:b0] (v W) (f W)) a R := by
  have e : ∀ W : Wl n c, forIn [a0:b0] (v W) (f W) = forIn (List.range' a0 (b0 - a0)) (v W) (f W) := fun W => by
    rw [Std.Legacy.Range.forIn_eq_forIn_range']
    have hsz : ([a0:b0] : Std.Legacy.Range).size = b0 - a0 := by simp [Std.Legacy.Range.size]
    show forIn (List.range' a0 ([a0:b0] : Std.Legacy.Range).size 1) _ _ = _
    rw [hsz]
  simp only [e]
  refine ex_forList f (fun l v a => ∃ i, a0 ≤ i ∧ i ≤ max a0 b0 ∧ l = List.range' i (max a0 b0 - i) 1 ∧ I i v a) R ?_ ?_ _ v a ⟨a0, Nat.le_refl _, by omega, by congr 1; omega, h⟩
  · rintro x rest v a ⟨i, hai, hib, hl, hI⟩
    have hlt : i < max a0 b0 := by
      rcases Nat.lt_or_ge i (max a0 b0) with h' | h'
      · exact h'
      · rw [show max a0 b0 - i = 0 by omega] at hl; simp at hl
    obtain ⟨k, hk⟩ : ∃ k, max a0 b0 - i = k + 1 := ⟨max a0 b0 - i - 1, by omega⟩
    rw [hk, List.range'_succ] at hl
    obtain ⟨rfl, rfl⟩ := List.cons.inj hl
    refine (hstep x v a hai (by omega) hI).mono fun r a' hr => ?_
    rcases hr with hr | ⟨v', ev, hI'⟩
    · exact .inl hr
    · exact .inr ⟨v', ev, x + 1, by omega, by omega, by congr 1; omega, hI'⟩
  · rintro v a ⟨i, hai, hib, hl, hI⟩
    have : i = max a0 b0 := by
      rcases Nat.lt_or_ge i (max a0 b0) with h' | h'
      · obtain ⟨k, hk⟩ : ∃ k, max a0 b0 - i = k + 1 := ⟨max a0 b0 - i - 1, by omega⟩
        rw [hk, List.range'_succ] at hl; simp at hl
      · omega
    subst this; exact hend _ _ hI
theorem ex_done {v : Wl n c → β} {a : AS} {R : (Wl n c → β) → AS → Prop} {I : (Wl n c → β) → AS → Prop} (h : R v a) : Ex (fun W => (pure (ForInStep.done (v W)) : StateT SortSt Sem (ForInStep β))) a (fun r a' => (∃ v', (∀ W, r W = .done (v' W)) ∧ R v' a') ∨ ∃ v', (∀ W, r W = .yield (v' W)) ∧ I v' a') :=
  ex_pure (.inl ⟨v, fun _ => rfl, h⟩)
theorem ex_yield {v : Wl n c → β} {a : AS} {R : (Wl n c → β) → AS → Prop} {I : (Wl n c → β) → AS → Prop} (h : I v a) : Ex (fun W => (pure (ForInStep.yield (v W)) : StateT SortSt Sem (ForInStep β))) a (fun r a' => (∃ v', (∀ W, r W = .done (v' W)) ∧ R v' a') ∨ ∃ v', (∀ W, r W = .yield (v' W)) ∧ I v' a') :=
  ex_pure (.inr ⟨v, fun _ => rfl, h⟩)
/-- all below n -/
def Lo (n : Nat) (o : Array Nat) : Prop := ∀ i, i < o.size → o.getD i 0 < n
/-- what lies beyond the key, at i -/
def byd (c : Nat → Nat → Bool) (l : Bool) (k : Nat) (o : Array Nat) (base i : Nat) : Bool := if l = true then c (o.getD (base + i) 0) k else !(c k (o.getD (base + i) 0))
theorem ex_beyond {l : Bool} {k : Nat} {o : Array Nat} {base i : Nat} {a : AS} {R : (Wl n c → Option Bool) → AS → Prop} (hk : k < n) (ho : Lo n o) (hi : base + i < o.size) (h : R (fun _ => some (byd c l k o base i)) a) :
    Ex (fun W => (do
      let x ← (sortPriv% PySem.Builtin.elem) (o.map W.it) (base + i)
      if l = true then (sortPriv% PySem.Builtin.lt) x (W.it k) else do
        let r ← (sortPriv% PySem.Builtin.lt) (W.it k) x
        pure (Option.map (fun x => !x) r) : StateT SortSt Sem (Option Bool))) a R := by
  refine ex_bind (ex_elem hi ?_)
  refine ex_ite (fun hl => ?_) (fun hl => ?_)
  · refine ex_lt (ho _ hi) hk ?_
    have e : byd c l k o base i = c (o.getD (base + i) 0) k := if_pos hl
    rw [← e]; exact h
  · refine ex_bind (ex_lt hk (ho _ hi) (ex_pure ?_))
    have e : byd c l k o base i = !(c k (o.getD (base + i) 0)) := if_neg hl
    rw [e] at h; exact h
theorem ex_gallop {l : Bool} {k : Nat} {o : Array Nat} {base m hint : Nat} {a : AS} {R : (Wl n c → Option Nat) → AS → Prop} (hk : k < n) (ho : Lo n o) (hb : base + m ≤ o.size) (hh : hint < m) (h : ∀ r, r ≤ m → R (fun _ => some r) a) :
    Ex (fun W => (sortPriv% PySem.Builtin.gallop) l (W.it k) (o.map W.it) base m hint) a R := by
  refine ex_bind (ex_beyond hk ho (by omega) ?_)
  dsimp only
  refine ex_ite (fun _ => ?_) (fun _ => ?_)
  · refine ex_bind (ex_for (fun _ v a' => a' = a ∧ ∃ x y : Nat, v = fun _ => (none, x, y)) (fun v a' => a' = a ∧ ∃ x y : Nat, v = fun _ => (none, x, y)) ⟨rfl, 0, 1, rfl⟩ ?_ (fun _ _ h => h) |>.mono ?_)
    · rintro i v a' _ _ ⟨rfl, x, y, rfl⟩
      dsimp only
      refine ex_ite (fun _ => ex_done ⟨rfl, x, y, rfl⟩) (fun hy => ex_bind (ex_beyond hk ho (by omega) ?_))
      dsimp only
      exact ex_ite (fun _ => ex_done ⟨rfl, x, y, rfl⟩) fun _ => ex_yield ⟨rfl, _, _, rfl⟩
    · rintro v a' ⟨rfl, x, y, rfl⟩
      dsimp only
      refine ex_bind (ex_for (fun _ v a'' => a'' = a' ∧ ∃ x y : Nat, y ≤ m ∧ v = fun _ => (none, x, y)) (fun v a'' => a'' = a' ∧ ∃ x y : Nat, y ≤ m ∧ v = fun _ => (none, x, y)) ⟨rfl, _, _, by omega, rfl⟩ ?_ (fun _ _ h => h) |>.mono ?_)
      · rintro i v a'' _ _ ⟨rfl, x, y, hy, rfl⟩
        dsimp only
        refine ex_ite (fun _ => ex_done ⟨rfl, x, y, hy, rfl⟩) (fun hxy => ex_bind (ex_beyond hk ho (by omega) ?_))
        dsimp only
        exact ex_ite (fun _ => ex_yield ⟨rfl, _, _, hy, rfl⟩) fun _ => ex_yield ⟨rfl, _, _, by omega, rfl⟩
      · rintro v a'' ⟨rfl, x, y, hy, rfl⟩
        exact ex_pure (h y hy)
  · refine ex_bind (ex_for (fun _ v a' => a' = a ∧ ∃ x y : Nat, v = fun _ => (none, x, y)) (fun v a' => a' = a ∧ ∃ x y : Nat, v = fun _ => (none, x, y)) ⟨rfl, 0, 1, rfl⟩ ?_ (fun _ _ h => h) |>.mono ?_)
    · rintro i v a' _ _ ⟨rfl, x, y, rfl⟩
      dsimp only
      refine ex_ite (fun _ => ex_done ⟨rfl, x, y, rfl⟩) (fun hy => ex_bind (ex_beyond hk ho (by omega) ?_))
      dsimp only
      exact ex_ite (fun _ => ex_done ⟨rfl, x, y, rfl⟩) fun _ => ex_yield ⟨rfl, _, _, rfl⟩
    · rintro v a' ⟨rfl, x, y, rfl⟩
      dsimp only
      refine ex_bind (ex_for (fun _ v a'' => a'' = a' ∧ ∃ x y : Nat, y ≤ m ∧ v = fun _ => (none, x, y)) (fun v a'' => a'' = a' ∧ ∃ x y : Nat, y ≤ m ∧ v = fun _ => (none, x, y)) ⟨rfl, _, _, by omega, rfl⟩ ?_ (fun _ _ h => h) |>.mono ?_)
      · rintro i v a'' _ _ ⟨rfl, x, y, hy, rfl⟩
        dsimp only
        refine ex_ite (fun _ => ex_done ⟨rfl, x, y, hy, rfl⟩) (fun hxy => ex_bind (ex_beyond hk ho (by omega) ?_))
        dsimp only
        exact ex_ite (fun _ => ex_yield ⟨rfl, _, _, hy, rfl⟩) fun _ => ex_yield ⟨rfl, _, _, by omega, rfl⟩
      · rintro v a'' ⟨rfl, x, y, hy, rfl⟩
        exact ex_pure (h y hy)
end
end TS

namespace TS
open PySem PyProof.Rows
section
variable {n : Nat} {c : Nat → Nat → Bool} {α β : Type}
theorem ex_setg {g : Nat} {a : AS} {R : (Wl n c → PUnit) → AS → Prop} (h : R (fun _ => ⟨⟩) { a with gal := g }) : Ex (fun _ : Wl n c => (sortPriv% PySem.Builtin.setMinGallop) g) a R := ex_modify (fun _ => rfl) h
theorem getD_get {y : Array Nat} {i : Nat} (h : i < y.size) : y.toList[i]? = some (y.getD i 0) := by
  have e : y.getD i 0 = y[i] := by simp [Array.getD, h]
  rw [e]; simp [h]
/-- what is out: the first ia of x, the first ib of y -/
def Pm (x y o : Array Nat) (ia ib : Nat) : Prop := o.toList.Perm (x.toList.take ia ++ y.toList.take ib)
section
variable {x y o : Array Nat} {ia ib : Nat}
theorem Pm.size (h : Pm x y o ia ib) (hi : ia ≤ x.size) (hj : ib ≤ y.size) : o.size = ia + ib := by
  have := h.length_eq
  simp only [List.length_append, List.length_take, Array.length_toList] at this
  omega
theorem Pm.b (h : Pm x y o ia ib) (hj : ib < y.size) : Pm x y (o.push (y.getD ib 0)) ia (ib + 1) := by
  refine List.perm_iff_count.mpr fun z => ?_
  have := h.count_eq z
  rw [List.take_add_one, getD_get hj]
  simp only [List.count_append, Array.toList_push, Option.toList_some] at this ⊢
  omega
theorem Pm.a (h : Pm x y o ia ib) (hi : ia < x.size) : Pm x y (o.push (x.getD ia 0)) (ia + 1) ib := by
  refine List.perm_iff_count.mpr fun z => ?_
  have := h.count_eq z
  rw [List.take_add_one, getD_get hi]
  simp only [List.count_append, Array.toList_push, Option.toList_some] at this ⊢
  omega
theorem Pm.as (h : Pm x y o ia ib) (k : Nat) : Pm x y (o ++ x.extract ia (ia + k)) (ia + k) ib := by
  refine List.perm_iff_count.mpr fun z => ?_
  have := h.count_eq z
  rw [List.take_add]
  simp only [List.count_append, Array.toList_append, Array.toList_extract, List.extract_eq_take_drop, Nat.add_sub_cancel_left] at this ⊢
  omega
theorem Pm.bs (h : Pm x y o ia ib) (k : Nat) : Pm x y (o ++ y.extract ib (ib + k)) ia (ib + k) := by
  refine List.perm_iff_count.mpr fun z => ?_
  have := h.count_eq z
  rw [List.take_add]
  simp only [List.count_append, Array.toList_append, Array.toList_extract, List.extract_eq_take_drop, Nat.add_sub_cancel_left] at this ⊢
  omega
theorem rest_eq (x : Array Nat) (i : Nat) : (x.extract i x.size).toList = x.toList.drop i := by
  rw [Array.toList_extract, List.extract_eq_take_drop]
  exact List.take_of_length_le (by simp)
theorem Pm.fin (h : Pm x y o ia ib) : (o ++ x.extract ia x.size ++ y.extract ib y.size).toList.Perm (x.toList ++ y.toList) := by
  refine List.perm_iff_count.mpr fun z => ?_
  have h1 := h.count_eq z
  have h2 := congrArg (List.count z) (List.take_append_drop ia x.toList)
  have h3 := congrArg (List.count z) (List.take_append_drop ib y.toList)
  simp only [List.count_append, Array.toList_append, rest_eq] at h1 h2 h3 ⊢
  omega
theorem Pm.fin' (h : Pm x y o ia ib) : (o ++ y.extract ib y.size ++ x.extract ia x.size).toList.Perm (x.toList ++ y.toList) := by
  refine List.perm_iff_count.mpr fun z => ?_
  have h1 := h.count_eq z
  have h2 := congrArg (List.count z) (List.take_append_drop ia x.toList)
  have h3 := congrArg (List.count z) (List.take_append_drop ib y.toList)
  simp only [List.count_append, Array.toList_append, rest_eq] at h1 h2 h3 ⊢
  omega
end
theorem ex_mergeLo {x y : Array Nat} {a : AS} {R : (Wl n c → Array Keyed) → AS → Prop} (hx : Lo n x) (hy : Lo n y) (h1 : 1 ≤ x.size) (h2 : 1 ≤ y.size) (h : ∀ (r : Array Nat) g, r.toList.Perm (x.toList ++ y.toList) → R (fun W => r.map W.it) { a with gal := g }) :
    Ex (fun W => (sortPriv% PySem.Builtin.mergeLo) (x.map W.it) (y.map W.it)) a R := by
  have fin : ∀ {o : Array Nat} {ia ib g : Nat}, Pm x y o ia ib → R (fun W => o.map W.it ++ (x.map W.it).extract ia x.size ++ (y.map W.it).extract ib y.size) { a with gal := g } := fun {o ia ib g} q => by
    have := h _ g q.fin
    simp only [Array.map_append, Array.map_extract] at this
    exact this
  have fin' : ∀ {o : Array Nat} {ia ib g : Nat}, Pm x y o ia ib → R (fun W => o.map W.it ++ (y.map W.it).extract ib y.size ++ (x.map W.it).extract ia x.size) { a with gal := g } := fun {o ia ib g} q => by
    have := h _ g q.fin'
    simp only [Array.map_append, Array.map_extract] at this
    exact this
  refine ex_bind (ex_rule ?_)
  dsimp only
  refine ex_bind (ex_elem (by omega) ?_)
  dsimp only
  simp only [Array.size_map]
  have p0 : Pm x y #[y.getD 0 0] 0 1 := by
    refine List.perm_iff_count.mpr fun z => ?_
    rw [List.take_add_one, getD_get (by omega)]
    simp
  have e0 : ∀ W : Wl n c, (#[W.it (y.getD 0 0)] : Array Keyed) = (#[y.getD 0 0] : Array Nat).map W.it := fun W => by simp
  simp only [e0]
  refine ex_ite (fun e => ex_pure (fin p0)) (fun e => ?_)
  refine ex_ite (fun e => ex_pure (fin' p0)) (fun e' => ?_)
  refine ex_bind (ex_get ?_)
  dsimp only
  have push1 : ∀ (o : Array Nat) (z : Nat), (fun W : Wl n c => (o.map W.it).push (W.it z)) = fun W => (o.push z).map W.it := fun o z => by funext W; simp
  have bN : ∀ {z : Nat}, ¬ (z == y.size) = true → z ≤ y.size → z < y.size := fun {z} q q' => by
    have : z ≠ y.size := fun e => q (by rw [e]; exact beq_self_eq_true _)
    omega
  have aN : ∀ {z : Nat}, ¬ (z == x.size) = true → z ≤ x.size → z < x.size := fun {z} q q' => by
    have : z ≠ x.size := fun e => q (by rw [e]; exact beq_self_eq_true _)
    omega
  -- the end of a loop: one that gives back a list, or one that goes on
  refine ex_bind (Ex.mono (ex_for
    (fun i v a' => ∃ (o : Array Nat) (ia ib mg g : Nat), a' = { a with gal := g } ∧ (v = fun W => (none, o.map W.it, ia, ib, mg)) ∧ Pm x y o ia ib ∧ ia + 1 < x.size ∧ ib < y.size ∧ i + 1 ≤ o.size)
    (fun v a' => ∃ (r : Array Nat) (g : Nat), a' = { a with gal := g } ∧ (∀ W, (v W).1 = some (r.map W.it)) ∧ r.toList.Perm (x.toList ++ y.toList))
    ⟨_, 0, 1, a.gal, a.gal, rfl, rfl, p0, aN e' (by omega), bN e (by omega), by simp⟩ ?_ ?_) ?_)
  · rintro i v a' _ hi ⟨o, ia, ib, mg, g, rfl, rfl, pm, hia, hib, hsz⟩
    dsimp only
    refine ex_bind (Ex.mono (ex_for
      (fun j v a' => ∃ (o' : Array Nat) (ia ib ac bc : Nat), a' = { a with gal := g } ∧ (v = fun W => (none, o'.map W.it, ia, ib, ac, bc)) ∧ Pm x y o' ia ib ∧ ia + 1 < x.size ∧ ib < y.size ∧ o.size + j ≤ o'.size)
      (fun v a' => a' = { a with gal := g } ∧ ((∃ (r : Array Nat), (∀ W, (v W).1 = some (r.map W.it)) ∧ r.toList.Perm (x.toList ++ y.toList)) ∨
        ∃ (o' : Array Nat) (ia ib ac bc : Nat), (v = fun W => (none, o'.map W.it, ia, ib, ac, bc)) ∧ Pm x y o' ia ib ∧ ia + 1 < x.size ∧ ib < y.size ∧ o.size + 1 ≤ o'.size))
      ⟨o, ia, ib, 0, 0, rfl, rfl, pm, hia, hib, by omega⟩ ?_ ?_) ?_)
    · rintro j v a' _ hj ⟨o', ia, ib, ac, bc, rfl, rfl, pm, hia, hib, hsz'⟩
      dsimp only
      refine ex_bind (ex_elem hib (ex_bind (ex_elem (by omega) (ex_bind (ex_lt (hy _ hib) (hx _ (by omega)) ?_)))))
      dsimp only
      refine ex_ite (fun _ => ?_) (fun _ => ?_)
      · refine ex_bind (ex_elem hib ?_)
        dsimp only
        simp only [← Array.map_push, ← Array.map_extract, ← Array.map_append]
        have pm' := pm.b hib
        refine ex_ite (fun q => ex_done ⟨rfl, .inl ⟨_, fun W => rfl, pm'.fin⟩⟩) (fun q => ?_)
        exact ex_ite (fun _ => ex_done ⟨rfl, .inr ⟨_, _, _, _, _, rfl, pm', hia, bN q (by omega), by rw [Array.size_push]; omega⟩⟩) (fun _ => ex_yield ⟨_, _, _, _, _, rfl, rfl, pm', hia, bN q (by omega), by rw [Array.size_push]; omega⟩)
      · refine ex_bind (ex_elem (by omega) ?_)
        dsimp only
        simp only [← Array.map_push, ← Array.map_extract, ← Array.map_append]
        have pm' := pm.a (show ia < x.size by omega)
        refine ex_ite (fun q => ex_done ⟨rfl, .inl ⟨_, fun W => rfl, pm'.fin'⟩⟩) (fun q => ?_)
        exact ex_ite (fun _ => ex_done ⟨rfl, .inr ⟨_, _, _, _, _, rfl, pm', aN q (by omega), hib, by rw [Array.size_push]; omega⟩⟩) (fun _ => ex_yield ⟨_, _, _, _, _, rfl, rfl, pm', aN q (by omega), hib, by rw [Array.size_push]; omega⟩)
    · rintro v a' ⟨o', ia, ib, ac, bc, rfl, rfl, pm, hia, hib, hsz'⟩
      exact ⟨rfl, .inr ⟨o', ia, ib, ac, bc, rfl, pm, hia, hib, by omega⟩⟩
    · rintro v a' ⟨rfl, ⟨r, hv, pr⟩ | ⟨o', ia, ib, ac, bc, rfl, pm, hia, hib, hsz'⟩⟩
      · simp only [hv]
        exact ex_done ⟨r, g, rfl, fun _ => rfl, pr⟩
      · dsimp only
        refine ex_bind (ex_rule ?_)
        refine ex_bind (Ex.mono (ex_for
          (fun j v a' => ∃ (o2 : Array Nat) (ia ib mg ac bc g : Nat), a' = { a with gal := g } ∧ (v = fun W => (none, o2.map W.it, ia, ib, mg, ac, bc)) ∧ Pm x y o2 ia ib ∧ ia + 1 < x.size ∧ ib < y.size ∧ o'.size ≤ o2.size)
          (fun v a' => ∃ g, a' = { a with gal := g } ∧ ((∃ (r : Array Nat), (∀ W, (v W).1 = some (r.map W.it)) ∧ r.toList.Perm (x.toList ++ y.toList)) ∨
            ∃ (o2 : Array Nat) (ia ib mg ac bc : Nat), (v = fun W => (none, o2.map W.it, ia, ib, mg, ac, bc)) ∧ Pm x y o2 ia ib ∧ ia + 1 < x.size ∧ ib < y.size ∧ o'.size ≤ o2.size))
          ⟨o', ia, ib, _, ac, bc, g, rfl, rfl, pm, hia, hib, by omega⟩ ?_ ?_) ?_)
        · rintro j v a' _ hj ⟨o2, ia, ib, mg, ac, bc, g, rfl, rfl, pm, hia, hib, hs2⟩
          dsimp only
          refine ex_ite (fun _ => ?_) (fun _ => ?_)
          all_goals
            refine ex_bind (ex_setg (ex_bind (ex_elem hib (ex_bind (ex_gallop (hy _ hib) hx (by omega) (by omega) fun k hk => ?_)))))
            dsimp only
            simp only [← Array.map_extract, ← Array.map_append]
            have pa := pm.as k
            refine ex_ite (fun hk0 => ex_ite (fun q => ex_done ⟨_, rfl, .inl ⟨_, fun W => rfl, pa.fin'⟩⟩) (fun q => ex_ite (fun q' => ex_done ⟨_, rfl, .inl ⟨_, fun W => rfl, pa.fin⟩⟩) (fun q' => ?_))) (fun hk0 => ?_)
            · have h3 : ia + k + 1 < x.size := by have := aN q (by have := aN q' (by omega); omega); omega
              refine ex_bind (ex_elem hib ?_)
              dsimp only
              simp only [← Array.map_push, ← Array.map_extract, ← Array.map_append]
              have pb := pa.b hib
              refine ex_ite (fun q => ex_done ⟨_, rfl, .inl ⟨_, fun W => rfl, pb.fin⟩⟩) (fun q2 => ?_)
              have h4 := bN q2 (by omega)
              refine ex_bind (ex_elem (by omega) (ex_bind (ex_gallop (hx _ (by omega)) hy (by omega) (by omega) fun k2 hk2 => ?_)))
              dsimp only
              (try simp only [← Array.map_extract, ← Array.map_append])
              have pc := pb.bs k2
              refine ex_ite (fun hk1 => ex_ite (fun q => ex_done ⟨_, rfl, .inl ⟨_, fun W => rfl, pc.fin⟩⟩) (fun q3 => ?_)) (fun hk1 => ?_)
              · have h5 := bN q3 (by omega)
                refine ex_bind (ex_elem (by omega) ?_)
                dsimp only
                simp only [← Array.map_push, ← Array.map_extract, ← Array.map_append]
                have pd := pc.a (show ia + k < x.size by omega)
                refine ex_ite (fun q => ex_done ⟨_, rfl, .inl ⟨_, fun W => rfl, pd.fin'⟩⟩) (fun q4 => ?_)
                have h6 := aN q4 (by omega)
                have hz : o'.size ≤ (((o2 ++ x.extract ia (ia + k)).push (y.getD ib 0) ++ y.extract (ib + 1) (ib + 1 + k2)).push (x.getD (ia + k) 0)).size := by simp only [Array.size_push, Array.size_append]; omega
                exact ex_ite (fun _ => ex_done ⟨_, rfl, .inr ⟨_, _, _, _, _, _, rfl, pd, h6, h5, hz⟩⟩) (fun _ => ex_yield ⟨_, _, _, _, _, _, _, rfl, rfl, pd, h6, h5, hz⟩)
              · refine ex_bind (ex_elem (by omega) ?_)
                dsimp only
                simp only [← Array.map_push, ← Array.map_extract, ← Array.map_append]
                have pd := pb.a (show ia + k < x.size by omega)
                refine ex_ite (fun q => ex_done ⟨_, rfl, .inl ⟨_, fun W => rfl, pd.fin'⟩⟩) (fun q4 => ?_)
                have h6 := aN q4 (by omega)
                have hz : o'.size ≤ (((o2 ++ x.extract ia (ia + k)).push (y.getD ib 0)).push (x.getD (ia + k) 0)).size := by simp only [Array.size_push, Array.size_append]; omega
                exact ex_ite (fun _ => ex_done ⟨_, rfl, .inr ⟨_, _, _, _, _, _, rfl, pd, h6, h4, hz⟩⟩) (fun _ => ex_yield ⟨_, _, _, _, _, _, _, rfl, rfl, pd, h6, h4, hz⟩)
            · refine ex_bind (ex_elem hib ?_)
              dsimp only
              simp only [← Array.map_push, ← Array.map_extract, ← Array.map_append]
              have pb := pm.b hib
              refine ex_ite (fun q => ex_done ⟨_, rfl, .inl ⟨_, fun W => rfl, pb.fin⟩⟩) (fun q2 => ?_)
              have h4 := bN q2 (by omega)
              refine ex_bind (ex_elem (by omega) (ex_bind (ex_gallop (hx _ (by omega)) hy (by omega) (by omega) fun k2 hk2 => ?_)))
              dsimp only
              (try simp only [← Array.map_extract, ← Array.map_append])
              have pc := pb.bs k2
              refine ex_ite (fun hk1 => ex_ite (fun q => ex_done ⟨_, rfl, .inl ⟨_, fun W => rfl, pc.fin⟩⟩) (fun q3 => ?_)) (fun hk1 => ?_)
              · have h5 := bN q3 (by omega)
                refine ex_bind (ex_elem (by omega) ?_)
                dsimp only
                simp only [← Array.map_push, ← Array.map_extract, ← Array.map_append]
                have pd := pc.a (show ia < x.size by omega)
                refine ex_ite (fun q => ex_done ⟨_, rfl, .inl ⟨_, fun W => rfl, pd.fin'⟩⟩) (fun q4 => ?_)
                have h6 := aN q4 (by omega)
                have hz : o'.size ≤ ((o2.push (y.getD ib 0) ++ y.extract (ib + 1) (ib + 1 + k2)).push (x.getD ia 0)).size := by simp only [Array.size_push, Array.size_append]; omega
                exact ex_ite (fun _ => ex_done ⟨_, rfl, .inr ⟨_, _, _, _, _, _, rfl, pd, h6, h5, hz⟩⟩) (fun _ => ex_yield ⟨_, _, _, _, _, _, _, rfl, rfl, pd, h6, h5, hz⟩)
              · refine ex_bind (ex_elem (by omega) ?_)
                dsimp only
                simp only [← Array.map_push, ← Array.map_extract, ← Array.map_append]
                have pd := pb.a (show ia < x.size by omega)
                refine ex_ite (fun q => ex_done ⟨_, rfl, .inl ⟨_, fun W => rfl, pd.fin'⟩⟩) (fun q4 => ?_)
                have h6 := aN q4 (by omega)
                have hz : o'.size ≤ ((o2.push (y.getD ib 0)).push (x.getD ia 0)).size := by simp only [Array.size_push]; omega
                exact ex_ite (fun _ => ex_done ⟨_, rfl, .inr ⟨_, _, _, _, _, _, rfl, pd, h6, h4, hz⟩⟩) (fun _ => ex_yield ⟨_, _, _, _, _, _, _, rfl, rfl, pd, h6, h4, hz⟩)
        · rintro v a' ⟨o2, ia, ib, mg, ac, bc, g, rfl, rfl, pm, hia, hib, hs2⟩
          exact ⟨g, rfl, .inr ⟨o2, ia, ib, mg, ac, bc, rfl, pm, hia, hib, hs2⟩⟩
        · rintro v a' ⟨g, rfl, ⟨r, hv, pr⟩ | ⟨o2, ia, ib, mg, ac, bc, rfl, pm, hia, hib, hs2⟩⟩
          · simp only [hv]
            exact ex_done ⟨r, g, rfl, fun _ => rfl, pr⟩
          · dsimp only
            refine ex_bind (ex_setg ?_)
            dsimp only
            exact ex_yield ⟨o2, ia, ib, _, _, rfl, rfl, pm, hia, hib, by omega⟩
  · rintro v a' ⟨o, ia, ib, mg, g, rfl, rfl, pm, hia, hib, hsz⟩
    have := pm.size (by omega) (by omega)
    omega
  · rintro v a' ⟨r, g, rfl, hv, pr⟩
    simp only [hv]
    exact ex_pure (h r g pr)
end
end TS

namespace TS
open PySem PyProof.Rows
section
variable {n : Nat} {c : Nat → Nat → Bool} {α β : Type}
/-- what is out: the last of x from na on, the last of y from nb on -/
def Ph (x y o : Array Nat) (na nb : Nat) : Prop := o.toList.Perm (x.toList.drop na ++ y.toList.drop nb)
theorem drop_one {x : Array Nat} {na : Nat} (h : 0 < na) (h' : na ≤ x.size) : x.toList.drop (na - 1) = x.getD (na - 1) 0 :: x.toList.drop na := by
  have e : x.toList[na - 1]? = some (x.getD (na - 1) 0) := getD_get (by omega)
  obtain ⟨hl, e⟩ := List.getElem?_eq_some_iff.mp e
  rw [List.drop_eq_getElem_cons hl, e, show na - 1 + 1 = na by omega]
theorem mid_eq {x : Array Nat} {k na : Nat} (h : k ≤ na) : x.toList.drop k = (x.extract k na).toList ++ x.toList.drop na := by
  rw [Array.toList_extract, List.extract_eq_take_drop]
  have := List.take_append_drop (na - k) (x.toList.drop k)
  rw [List.drop_drop, show k + (na - k) = na by omega] at this
  exact this.symm
theorem fst_eq (x : Array Nat) (i : Nat) : (x.extract 0 i).toList = x.toList.take i := by
  rw [Array.toList_extract, List.extract_eq_take_drop]; simp
section
variable {x y o : Array Nat} {na nb : Nat}
theorem Ph.size (h : Ph x y o na nb) : o.size = (x.size - na) + (y.size - nb) := by
  have := h.length_eq
  simp only [List.length_append, List.length_drop, Array.length_toList] at this
  omega
theorem Ph.a (h : Ph x y o na nb) (h0 : 0 < na) (h1 : na ≤ x.size) : Ph x y (o.push (x.getD (na - 1) 0)) (na - 1) nb := by
  refine List.perm_iff_count.mpr fun z => ?_
  have := h.count_eq z
  rw [drop_one h0 h1]
  simp only [List.count_append, Array.toList_push, List.cons_append, List.count_cons, List.count_nil] at this ⊢
  omega
theorem Ph.b (h : Ph x y o na nb) (h0 : 0 < nb) (h1 : nb ≤ y.size) : Ph x y (o.push (y.getD (nb - 1) 0)) na (nb - 1) := by
  refine List.perm_iff_count.mpr fun z => ?_
  have := h.count_eq z
  rw [drop_one h0 h1]
  simp only [List.count_append, Array.toList_push, List.count_cons, List.count_nil] at this ⊢
  omega
theorem Ph.as (h : Ph x y o na nb) {k : Nat} (hk : k ≤ na) : Ph x y (o ++ (x.extract k na).reverse) k nb := by
  refine List.perm_iff_count.mpr fun z => ?_
  have := h.count_eq z
  rw [mid_eq hk]
  simp only [List.count_append, Array.toList_append, Array.toList_reverse, List.count_reverse] at this ⊢
  omega
theorem Ph.bs (h : Ph x y o na nb) {k : Nat} (hk : k ≤ nb) : Ph x y (o ++ (y.extract k nb).reverse) na k := by
  refine List.perm_iff_count.mpr fun z => ?_
  have := h.count_eq z
  rw [mid_eq hk]
  simp only [List.count_append, Array.toList_append, Array.toList_reverse, List.count_reverse] at this ⊢
  omega
theorem Ph.fin (h : Ph x y o na nb) : (x.extract 0 na ++ y.extract 0 nb ++ o.reverse).toList.Perm (x.toList ++ y.toList) := by
  refine List.perm_iff_count.mpr fun z => ?_
  have h1 := h.count_eq z
  have h2 := congrArg (List.count z) (List.take_append_drop na x.toList)
  have h3 := congrArg (List.count z) (List.take_append_drop nb y.toList)
  simp only [List.count_append, Array.toList_append, fst_eq, Array.toList_reverse, List.count_reverse] at h1 h2 h3 ⊢
  omega
theorem Ph.fin' (h : Ph x y o na nb) : (y.extract 0 nb ++ x.extract 0 na ++ o.reverse).toList.Perm (x.toList ++ y.toList) := by
  refine List.perm_iff_count.mpr fun z => ?_
  have h1 := h.count_eq z
  have h2 := congrArg (List.count z) (List.take_append_drop na x.toList)
  have h3 := congrArg (List.count z) (List.take_append_drop nb y.toList)
  simp only [List.count_append, Array.toList_append, fst_eq, Array.toList_reverse, List.count_reverse] at h1 h2 h3 ⊢
  omega
end
theorem eN {z w : Nat} (q : ¬ (z == w) = true) : z ≠ w := fun e => q (by rw [e]; exact beq_self_eq_true _)
theorem ex_mergeHi {x y : Array Nat} {a : AS} {R : (Wl n c → Array Keyed) → AS → Prop} (hx : Lo n x) (hy : Lo n y) (h1 : 1 ≤ x.size) (h2 : 1 ≤ y.size) (h : ∀ (r : Array Nat) g, r.toList.Perm (x.toList ++ y.toList) → R (fun W => r.map W.it) { a with gal := g }) :
    Ex (fun W => (sortPriv% PySem.Builtin.mergeHi) (x.map W.it) (y.map W.it)) a R := by
  refine ex_bind (ex_rule ?_)
  dsimp only
  simp only [Array.size_map]
  refine ex_bind (ex_elem (by omega) ?_)
  dsimp only
  have e0 : ∀ (W : Wl n c) (z : Nat), (#[W.it z] : Array Keyed) = (#[z] : Array Nat).map W.it := fun W z => by simp
  simp only [e0, ← Array.map_push, ← Array.map_extract, ← Array.map_reverse, ← Array.map_append]
  have p0 : Ph x y #[x.getD (x.size - 1) 0] (x.size - 1) y.size := by
    refine List.perm_iff_count.mpr fun z => ?_
    rw [drop_one h1 (Nat.le_refl _)]
    have e1 : x.toList.drop x.size = [] := List.drop_of_length_le (by simp)
    have e2 : y.toList.drop y.size = [] := List.drop_of_length_le (by simp)
    rw [e1, e2]; rfl
  refine ex_ite (fun e => ex_pure (h _ a.gal p0.fin)) (fun e => ?_)
  refine ex_ite (fun e => ex_pure (h _ a.gal p0.fin')) (fun e' => ?_)
  refine ex_bind (ex_get ?_)
  dsimp only
  have n0 := eN e
  have n1 := eN e'
  refine ex_bind (Ex.mono (ex_for
    (fun i v a' => ∃ (o : Array Nat) (na nb mg g : Nat), a' = { a with gal := g } ∧ (v = fun W => (none, na, nb, o.map W.it, mg)) ∧ Ph x y o na nb ∧ 0 < na ∧ na ≤ x.size ∧ 1 < nb ∧ nb ≤ y.size ∧ i + 1 ≤ o.size)
    (fun v a' => ∃ (r : Array Nat) (g : Nat), a' = { a with gal := g } ∧ (∀ W, (v W).1 = some (r.map W.it)) ∧ r.toList.Perm (x.toList ++ y.toList))
    ⟨_, _, _, a.gal, a.gal, rfl, rfl, p0, by omega, by omega, by omega, by omega, by simp⟩ ?_ ?_) ?_)
  · rintro i v a' _ hi ⟨o, na, nb, mg, g, rfl, rfl, pm, h3, h4, h5, h6, hsz⟩
    dsimp only
    refine ex_bind (Ex.mono (ex_for
      (fun j v a' => ∃ (o' : Array Nat) (na nb ac bc : Nat), a' = { a with gal := g } ∧ (v = fun W => (none, na, nb, o'.map W.it, ac, bc)) ∧ Ph x y o' na nb ∧ 0 < na ∧ na ≤ x.size ∧ 1 < nb ∧ nb ≤ y.size ∧ o.size + j ≤ o'.size)
      (fun v a' => a' = { a with gal := g } ∧ ((∃ (r : Array Nat), (∀ W, (v W).1 = some (r.map W.it)) ∧ r.toList.Perm (x.toList ++ y.toList)) ∨
        ∃ (o' : Array Nat) (na nb ac bc : Nat), (v = fun W => (none, na, nb, o'.map W.it, ac, bc)) ∧ Ph x y o' na nb ∧ 0 < na ∧ na ≤ x.size ∧ 1 < nb ∧ nb ≤ y.size ∧ o.size + 1 ≤ o'.size))
      ⟨o, na, nb, 0, 0, rfl, rfl, pm, h3, h4, h5, h6, by omega⟩ ?_ ?_) ?_)
    · rintro j v a' _ hj ⟨o', na, nb, ac, bc, rfl, rfl, pm, h3, h4, h5, h6, hsz'⟩
      dsimp only
      refine ex_bind (ex_elem (by omega) (ex_bind (ex_elem (by omega) (ex_bind (ex_lt (hy _ (by omega)) (hx _ (by omega)) ?_)))))
      dsimp only
      refine ex_ite (fun _ => ?_) (fun _ => ?_)
      · refine ex_bind (ex_elem (by omega) ?_)
        dsimp only
        simp only [← Array.map_push, ← Array.map_extract, ← Array.map_reverse, ← Array.map_append]
        have pm' := pm.a h3 h4
        refine ex_ite (fun q => ex_done ⟨rfl, .inl ⟨_, fun W => rfl, pm'.fin⟩⟩) (fun q => ?_)
        have q1 := eN q
        exact ex_ite (fun _ => ex_done ⟨rfl, .inr ⟨_, _, _, _, _, rfl, pm', by omega, by omega, h5, h6, by rw [Array.size_push]; omega⟩⟩) (fun _ => ex_yield ⟨_, _, _, _, _, rfl, rfl, pm', by omega, by omega, h5, h6, by rw [Array.size_push]; omega⟩)
      · refine ex_bind (ex_elem (by omega) ?_)
        dsimp only
        simp only [← Array.map_push, ← Array.map_extract, ← Array.map_reverse, ← Array.map_append]
        have pm' := pm.b (by omega) h6
        refine ex_ite (fun q => ex_done ⟨rfl, .inl ⟨_, fun W => rfl, pm'.fin'⟩⟩) (fun q => ?_)
        have q1 := eN q
        exact ex_ite (fun _ => ex_done ⟨rfl, .inr ⟨_, _, _, _, _, rfl, pm', h3, h4, by omega, by omega, by rw [Array.size_push]; omega⟩⟩) (fun _ => ex_yield ⟨_, _, _, _, _, rfl, rfl, pm', h3, h4, by omega, by omega, by rw [Array.size_push]; omega⟩)
    · rintro v a' ⟨o', na, nb, ac, bc, rfl, rfl, pm, h3, h4, h5, h6, hsz'⟩
      exact ⟨rfl, .inr ⟨o', na, nb, ac, bc, rfl, pm, h3, h4, h5, h6, by omega⟩⟩
    · rintro v a' ⟨rfl, ⟨r, hv, pr⟩ | ⟨o', na, nb, ac, bc, rfl, pm, h3, h4, h5, h6, hsz'⟩⟩
      · simp only [hv]
        exact ex_done ⟨r, g, rfl, fun _ => rfl, pr⟩
      · dsimp only
        refine ex_bind (ex_rule ?_)
        refine ex_bind (Ex.mono (ex_for
          (fun j v a' => ∃ (o2 : Array Nat) (na nb mg ac bc g : Nat), a' = { a with gal := g } ∧ (v = fun W => (none, na, nb, o2.map W.it, mg, ac, bc)) ∧ Ph x y o2 na nb ∧ 0 < na ∧ na ≤ x.size ∧ 1 < nb ∧ nb ≤ y.size ∧ o'.size ≤ o2.size)
          (fun v a' => ∃ g, a' = { a with gal := g } ∧ ((∃ (r : Array Nat), (∀ W, (v W).1 = some (r.map W.it)) ∧ r.toList.Perm (x.toList ++ y.toList)) ∨
            ∃ (o2 : Array Nat) (na nb mg ac bc : Nat), (v = fun W => (none, na, nb, o2.map W.it, mg, ac, bc)) ∧ Ph x y o2 na nb ∧ 0 < na ∧ na ≤ x.size ∧ 1 < nb ∧ nb ≤ y.size ∧ o'.size ≤ o2.size))
          ⟨o', na, nb, _, ac, bc, g, rfl, rfl, pm, h3, h4, h5, h6, by omega⟩ ?_ ?_) ?_)
        · rintro j v a' _ hj ⟨o2, na, nb, mg, ac, bc, g, rfl, rfl, pm, h3, h4, h5, h6, hs2⟩
          dsimp only
          refine ex_ite (fun _ => ?_) (fun _ => ?_)
          all_goals
            refine ex_bind (ex_setg (ex_bind (ex_elem (by omega) (ex_bind (ex_gallop (hy _ (by omega)) hx (by omega) (by omega) fun k hk => ?_)))))
            dsimp only
            (try simp only [← Array.map_extract, ← Array.map_reverse, ← Array.map_append])
            have pa := pm.as hk
            refine ex_ite (fun hk0 => ex_ite (fun q => ex_done ⟨_, rfl, .inl ⟨_, fun W => rfl, pa.fin⟩⟩) (fun q => ?_)) (fun hk0 => ?_)
            · have q0 := eN q
              refine ex_bind (ex_elem (by omega) ?_)
              dsimp only
              (try simp only [← Array.map_push, ← Array.map_extract, ← Array.map_reverse, ← Array.map_append])
              have pb := pa.b (by omega) h6
              refine ex_ite (fun q => ex_done ⟨_, rfl, .inl ⟨_, fun W => rfl, pb.fin'⟩⟩) (fun q2 => ?_)
              have q2' := eN q2
              refine ex_bind (ex_elem (by omega) (ex_bind (ex_gallop (hx _ (by omega)) hy (by omega) (by omega) fun k2 hk2 => ?_)))
              dsimp only
              (try simp only [← Array.map_extract, ← Array.map_reverse, ← Array.map_append])
              have pc := pb.bs hk2
              refine ex_ite (fun hk1 => ex_ite (fun q => ex_done ⟨_, rfl, .inl ⟨_, fun W => rfl, pc.fin'⟩⟩) (fun q3 => ex_ite (fun q => ex_done ⟨_, rfl, .inl ⟨_, fun W => rfl, pc.fin⟩⟩) (fun q4 => ?_))) (fun hk1 => ?_)
              · have q3' := eN q3
                have q4' := eN q4
                refine ex_bind (ex_elem (by omega) ?_)
                dsimp only
                (try simp only [← Array.map_push, ← Array.map_extract, ← Array.map_reverse, ← Array.map_append])
                have pd := pc.a (by omega) (show k ≤ x.size by omega)
                refine ex_ite (fun q => ex_done ⟨_, rfl, .inl ⟨_, fun W => rfl, pd.fin⟩⟩) (fun q5 => ?_)
                have q5' := eN q5
                have hz := pd.size
                have hz0 := pm.size
                simp only [Bool.and_eq_true, decide_eq_true_eq]
                exact ex_ite (fun _ => ex_done ⟨_, rfl, .inr ⟨_, _, _, _, _, _, rfl, pd, by omega, by omega, by omega, by omega, by omega⟩⟩) (fun _ => ex_yield ⟨_, _, _, _, _, _, _, rfl, rfl, pd, by omega, by omega, by omega, by omega, by omega⟩)
              · refine ex_bind (ex_elem (by omega) ?_)
                dsimp only
                (try simp only [← Array.map_push, ← Array.map_extract, ← Array.map_reverse, ← Array.map_append])
                have pd := pb.a (by omega) (show k ≤ x.size by omega)
                refine ex_ite (fun q => ex_done ⟨_, rfl, .inl ⟨_, fun W => rfl, pd.fin⟩⟩) (fun q5 => ?_)
                have q5' := eN q5
                have hz := pd.size
                have hz0 := pm.size
                simp only [Bool.and_eq_true, decide_eq_true_eq]
                exact ex_ite (fun _ => ex_done ⟨_, rfl, .inr ⟨_, _, _, _, _, _, rfl, pd, by omega, by omega, by omega, by omega, by omega⟩⟩) (fun _ => ex_yield ⟨_, _, _, _, _, _, _, rfl, rfl, pd, by omega, by omega, by omega, by omega, by omega⟩)
            · refine ex_bind (ex_elem (by omega) ?_)
              dsimp only
              (try simp only [← Array.map_push, ← Array.map_extract, ← Array.map_reverse, ← Array.map_append])
              have pb := pm.b (by omega) h6
              refine ex_ite (fun q => ex_done ⟨_, rfl, .inl ⟨_, fun W => rfl, pb.fin'⟩⟩) (fun q2 => ?_)
              have q2' := eN q2
              refine ex_bind (ex_elem (by omega) (ex_bind (ex_gallop (hx _ (by omega)) hy (by omega) (by omega) fun k2 hk2 => ?_)))
              dsimp only
              (try simp only [← Array.map_extract, ← Array.map_reverse, ← Array.map_append])
              have pc := pb.bs hk2
              refine ex_ite (fun hk1 => ex_ite (fun q => ex_done ⟨_, rfl, .inl ⟨_, fun W => rfl, pc.fin'⟩⟩) (fun q3 => ex_ite (fun q => ex_done ⟨_, rfl, .inl ⟨_, fun W => rfl, pc.fin⟩⟩) (fun q4 => ?_))) (fun hk1 => ?_)
              · have q3' := eN q3
                have q4' := eN q4
                refine ex_bind (ex_elem (by omega) ?_)
                dsimp only
                (try simp only [← Array.map_push, ← Array.map_extract, ← Array.map_reverse, ← Array.map_append])
                have pd := pc.a h3 h4
                refine ex_ite (fun q => ex_done ⟨_, rfl, .inl ⟨_, fun W => rfl, pd.fin⟩⟩) (fun q5 => ?_)
                have q5' := eN q5
                have hz := pd.size
                have hz0 := pm.size
                simp only [Bool.and_eq_true, decide_eq_true_eq]
                exact ex_ite (fun _ => ex_done ⟨_, rfl, .inr ⟨_, _, _, _, _, _, rfl, pd, by omega, by omega, by omega, by omega, by omega⟩⟩) (fun _ => ex_yield ⟨_, _, _, _, _, _, _, rfl, rfl, pd, by omega, by omega, by omega, by omega, by omega⟩)
              · refine ex_bind (ex_elem (by omega) ?_)
                dsimp only
                (try simp only [← Array.map_push, ← Array.map_extract, ← Array.map_reverse, ← Array.map_append])
                have pd := pb.a h3 h4
                refine ex_ite (fun q => ex_done ⟨_, rfl, .inl ⟨_, fun W => rfl, pd.fin⟩⟩) (fun q5 => ?_)
                have q5' := eN q5
                have hz := pd.size
                have hz0 := pm.size
                simp only [Bool.and_eq_true, decide_eq_true_eq]
                exact ex_ite (fun _ => ex_done ⟨_, rfl, .inr ⟨_, _, _, _, _, _, rfl, pd, by omega, by omega, by omega, by omega, by omega⟩⟩) (fun _ => ex_yield ⟨_, _, _, _, _, _, _, rfl, rfl, pd, by omega, by omega, by omega, by omega, by omega⟩)
        · rintro v a' ⟨o2, na, nb, mg, ac, bc, g, rfl, rfl, pm, h3, h4, h5, h6, hs2⟩
          exact ⟨g, rfl, .inr ⟨o2, na, nb, mg, ac, bc, rfl, pm, h3, h4, h5, h6, hs2⟩⟩
        · rintro v a' ⟨g, rfl, ⟨r, hv, pr⟩ | ⟨o2, na, nb, mg, ac, bc, rfl, pm, h3, h4, h5, h6, hs2⟩⟩
          · simp only [hv]
            exact ex_done ⟨r, g, rfl, fun _ => rfl, pr⟩
          · dsimp only
            refine ex_bind (ex_setg ?_)
            dsimp only
            exact ex_yield ⟨o2, na, nb, _, _, rfl, rfl, pm, h3, h4, h5, h6, by omega⟩
  · rintro v a' ⟨o, na, nb, mg, g, rfl, rfl, pm, h3, h4, h5, h6, hsz⟩
    have := pm.size
    omega
  · rintro v a' ⟨r, g, rfl, hv, pr⟩
    simp only [hv]
    exact ex_pure (h r g pr)
end
end TS

namespace TS
open PySem PyProof.Rows
section
variable {n : Nat} {c : Nat → Nat → Bool} {α β : Type}
theorem lo_mem {o : Array Nat} : Lo n o ↔ ∀ z ∈ o.toList, z < n := by
  constructor
  · intro h z hz
    obtain ⟨i, hi, e⟩ := List.mem_iff_getElem.mp hz
    have := h i (by simpa using hi)
    have e2 : o.getD i 0 = z := by
      have h' : i < o.size := by simpa using hi
      rw [← e]; simp [Array.getD, h']
    rw [e2] at this; exact this
  · intro h i hi
    exact h _ (List.mem_of_getElem? (getD_get hi))
theorem Lo.perm {o o' : Array Nat} (h : Lo n o) (p : o'.Perm o) : Lo n o' := lo_mem.mpr fun z hz => lo_mem.mp h z ((Array.perm_iff_toList_perm.mp p).mem_iff.mp hz)
theorem Lo.ext {o : Array Nat} (h : Lo n o) (i j : Nat) : Lo n (o.extract i j) := lo_mem.mpr fun z hz => lo_mem.mp h z (by
  rw [Array.toList_extract, List.extract_eq_take_drop] at hz
  exact List.mem_of_mem_drop (List.mem_of_mem_take hz))
theorem ex_ltAt {i j : Nat} {a : AS} {R : (Wl n c → Option Bool) → AS → Prop} (hl : Lo n a.p) (hi : i < a.p.size) (hj : j < a.p.size) (h : R (fun _ => some (c (a.p.getD i 0) (a.p.getD j 0))) a) : Ex (fun _ => (sortPriv% PySem.Builtin.ltAt) i j) a R := by
  refine ex_bind (ex_get ?_)
  dsimp only
  exact ex_bind (ex_elem hi (ex_bind (ex_elem hj (ex_lt (hl _ hi) (hl _ hj) h))))
theorem mirror_map (f : Nat → Keyed) (p : Array Nat) (i j d : Nat) : mirror (p.map f) i j d = (mirror p i j d).map f := PySem.W.kas_swaps_map f (fun k => i + k) (fun k => j - 1 - k) _ p
theorem bubble_map (f : Nat → Keyed) (p : Array Nat) (s d : Nat) : bubble (p.map f) s d = (bubble p s d).map f := PySem.W.kas_swaps_map f (fun k => s - k) (fun k => s - k - 1) _ p
theorem ex_rev {i j : Nat} {a : AS} {R : (Wl n c → Unit) → AS → Prop} (h : ∀ p' : Array Nat, p'.Perm a.p → R (fun _ => ()) { a with p := p' }) : Ex (fun _ => (sortPriv% PySem.Builtin.reverseSlice) i j) a R := by
  refine ex_modify (a' := { a with p := mirror a.p i j ((j - i) / 2) }) (fun W => ?_) (h _ (mirror_perm _ _ _ _))
  show setArr (St W a) (mirror (a.p.map W.it) i j ((j - i) / 2)) = _
  rw [mirror_map]
  rfl
theorem ex_move {i j : Nat} {a : AS} {R : (Wl n c → Unit) → AS → Prop} (h : ∀ p' : Array Nat, p'.Perm a.p → R (fun _ => ()) { a with p := p' }) : Ex (fun _ => (sortPriv% PySem.Builtin.moveDown) i j) a R := by
  refine ex_modify (a' := { a with p := bubble a.p i (i - j) }) (fun W => ?_) (h _ (bubble_perm _ _ _))
  show setArr (St W a) (bubble (a.p.map W.it) i (i - j)) = _
  rw [bubble_map]
  rfl
theorem ex_set {f : Wl n c → SortSt} {a a' : AS} {R : (Wl n c → PUnit) → AS → Prop} (e : ∀ W, f W = St W a') (h : R (fun _ => ⟨⟩) a') : Ex (fun W => (set (f W) : StateT SortSt Sem PUnit)) a R := by
  refine ⟨_, a', h, fun W Q q => ?_⟩
  dsimp only
  rw [e W]
  unfold wpS
  rw [StateT.run_set]
  exact wpAny_pure ⟨rfl, q⟩
theorem ex_binary {lo m ok : Nat} {a : AS} {R : (Wl n c → Bool) → AS → Prop} (hl : Lo n a.p) (hm : lo + m ≤ a.p.size) (h : ∀ p' : Array Nat, p'.Perm a.p → R (fun _ => true) { a with p := p' }) : Ex (fun _ => (sortPriv% PySem.Builtin.binarySort) lo m ok) a R := by
  refine ex_bind (Ex.mono (ex_for (v := fun _ => (none, ())) (fun _ v a' => v = (fun _ => (none, ())) ∧ ∃ p' : Array Nat, p'.Perm a.p ∧ a' = { a with p := p' }) (fun v a' => v = (fun _ => (none, ())) ∧ ∃ p' : Array Nat, p'.Perm a.p ∧ a' = { a with p := p' }) ⟨rfl, a.p, Array.Perm.refl _, rfl⟩ ?_ (fun _ _ h => h)) ?_)
  · rintro k v a' hk1 hk ⟨rfl, p', pp, rfl⟩
    have sz : p'.size = a.p.size := pp.size_eq
    have hl' := hl.perm pp
    dsimp only
    refine ex_bind (Ex.mono (ex_for (fun _ v a' => a' = { a with p := p' } ∧ ∃ l r : Nat, r ≤ k ∧ l ≤ k ∧ v = fun _ => (none, l, r)) (fun v a' => a' = { a with p := p' } ∧ ∃ l r : Nat, v = fun _ => (none, l, r)) ⟨rfl, 0, k, Nat.le_refl _, Nat.zero_le _, rfl⟩ ?_ (fun _ _ ⟨h1, l, r, _, _, h2⟩ => ⟨h1, l, r, h2⟩)) ?_)
    · rintro i v a' _ _ ⟨rfl, l, r, h1, h2, rfl⟩
      dsimp only
      refine ex_ite (fun _ => ex_done ⟨rfl, l, r, rfl⟩) (fun hlr => ex_bind (ex_ltAt hl' (by show lo + k < p'.size; omega) (by show lo + (l + r) / 2 < p'.size; omega) ?_))
      dsimp only
      exact ex_ite (fun _ => ex_yield ⟨rfl, _, _, by omega, h2, rfl⟩) (fun _ => ex_yield ⟨rfl, _, _, h1, by omega, rfl⟩)
    · rintro v a' ⟨rfl, l, r, rfl⟩
      dsimp only
      refine ex_bind (ex_move fun p2 pp2 => ?_)
      exact ex_yield ⟨rfl, p2, pp2.trans pp, rfl⟩
  · rintro v a' ⟨rfl, p', pp, rfl⟩
    exact ex_pure (h p' pp)
theorem ex_count {lo nrem : Nat} {a : AS} {R : (Wl n c → Option Nat) → AS → Prop} (hl : Lo n a.p) (h1 : 1 ≤ nrem) (hm : lo + nrem ≤ a.p.size) (h : ∀ (m : Nat) (p' : Array Nat), 1 ≤ m → m ≤ nrem → p'.Perm a.p → R (fun _ => some m) { a with p := p' }) : Ex (fun _ => (sortPriv% PySem.Builtin.countRun) lo nrem) a R := by
  refine ex_bind (Ex.mono (ex_for (fun i v a' => a' = a ∧ v = fun _ => (none, i)) (fun v a' => a' = a ∧ ∃ m : Nat, 1 ≤ m ∧ m ≤ nrem ∧ v = fun _ => (none, m)) ⟨rfl, rfl⟩ ?_ ?_) ?_)
  · rintro i v a' hi1 hi2 ⟨rfl, rfl⟩
    dsimp only
    refine ex_bind (ex_ltAt hl (by omega) (by omega) ?_)
    dsimp only
    exact ex_ite (fun _ => ex_done ⟨rfl, i, hi1, by omega, rfl⟩) (fun _ => ex_yield ⟨rfl, rfl⟩)
  · rintro v a' ⟨rfl, rfl⟩
    exact ⟨rfl, _, by omega, by omega, rfl⟩
  · rintro v a' ⟨rfl, m, hm1, hm2, rfl⟩
    dsimp only
    refine ex_ite (fun _ => ex_pure (h m a'.p hm1 hm2 (Array.Perm.refl _))) (fun q => ?_)
    have q' := eN q
    refine ex_ite (fun _ => ?_) (fun _ => ?_)
    · refine ex_bind (ex_ltAt hl (by omega) (by omega) ?_)
      dsimp only
      refine ex_ite (fun _ => ex_pure (h m a'.p hm1 hm2 (Array.Perm.refl _))) (fun _ => ex_bind (ex_rev fun p0 pp0 => ?_))
      refine ex_bind (ex_rule ?_)
      refine ex_bind (Ex.mono (ex_for (fun i v b => ∃ (q : Nat) (p1 : Array Nat), p1.Perm a'.p ∧ b = { a' with p := p1 } ∧ v = fun _ => (none, i, q)) (fun v b => ∃ (k q : Nat) (p1 : Array Nat), p1.Perm a'.p ∧ b = { a' with p := p1 } ∧ m + 1 ≤ k ∧ k ≤ nrem ∧ v = fun _ => (none, k, q)) ⟨0, p0, pp0, rfl, rfl⟩ ?_ ?_) ?_)
      · rintro i v b hi1 hi2 ⟨q, p1, pp1, rfl, rfl⟩
        have z1 : p1.size = a'.p.size := pp1.size_eq
        dsimp only
        refine ex_bind (ex_ltAt (hl.perm pp1) (by show lo + i < p1.size; omega) (by show lo + i - 1 < p1.size; omega) ?_)
        dsimp only
        refine ex_ite (fun _ => ex_ite (fun _ => ex_bind (ex_rev fun p2 pp2 => ex_yield ⟨0, p2, pp2.trans pp1, rfl, rfl⟩)) (fun _ => ex_yield ⟨0, p1, pp1, rfl, rfl⟩)) (fun _ => ?_)
        refine ex_bind (ex_ltAt (hl.perm pp1) (by show lo + i - 1 < p1.size; omega) (by show lo + i < p1.size; omega) ?_)
        dsimp only
        exact ex_ite (fun _ => ex_done ⟨i, q, p1, pp1, rfl, hi1, by omega, rfl⟩) (fun _ => ex_yield ⟨q + 1, p1, pp1, rfl, rfl⟩)
      · rintro v b ⟨q, p1, pp1, rfl, rfl⟩
        exact ⟨_, q, p1, pp1, rfl, by omega, by omega, rfl⟩
      · rintro v b ⟨k, q, p1, pp1, rfl, hk1, hk2, rfl⟩
        dsimp only
        refine ex_ite (fun _ => ex_bind (ex_rev fun p3 pp3 => ?_)) (fun _ => ?_)
        · skip
          refine ex_bind (ex_rev fun p2 pp2 => ?_)
          refine ex_bind (Ex.mono (ex_for (fun i v b => b = { a' with p := p2 } ∧ v = fun _ => (none, i)) (fun v b => b = { a' with p := p2 } ∧ ∃ k : Nat, 1 ≤ k ∧ k ≤ nrem ∧ v = fun _ => (none, k)) ⟨rfl, rfl⟩ ?_ ?_) ?_)
          · rintro i v b hi1 hi2 ⟨rfl, rfl⟩
            have z2 : p2.size = a'.p.size := (pp2.trans (pp3.trans pp1)).size_eq
            dsimp only
            refine ex_bind (ex_ltAt (hl.perm (pp2.trans (pp3.trans pp1))) (by show lo + i < p2.size; omega) (by show lo + i - 1 < p2.size; omega) ?_)
            dsimp only
            exact ex_ite (fun _ => ex_done ⟨rfl, i, by omega, by omega, rfl⟩) (fun _ => ex_yield ⟨rfl, rfl⟩)
          · rintro v b ⟨rfl, rfl⟩
            exact ⟨rfl, _, by omega, by omega, rfl⟩
          · rintro v b ⟨rfl, k, k1, k2, rfl⟩
            exact ex_pure (h k p2 k1 k2 (pp2.trans (pp3.trans pp1)))
        · skip
          refine ex_bind (ex_rev fun p2 pp2 => ?_)
          refine ex_bind (Ex.mono (ex_for (fun i v b => b = { a' with p := p2 } ∧ v = fun _ => (none, i)) (fun v b => b = { a' with p := p2 } ∧ ∃ k : Nat, 1 ≤ k ∧ k ≤ nrem ∧ v = fun _ => (none, k)) ⟨rfl, rfl⟩ ?_ ?_) ?_)
          · rintro i v b hi1 hi2 ⟨rfl, rfl⟩
            have z2 : p2.size = a'.p.size := (pp2.trans pp1).size_eq
            dsimp only
            refine ex_bind (ex_ltAt (hl.perm (pp2.trans pp1)) (by show lo + i < p2.size; omega) (by show lo + i - 1 < p2.size; omega) ?_)
            dsimp only
            exact ex_ite (fun _ => ex_done ⟨rfl, i, by omega, by omega, rfl⟩) (fun _ => ex_yield ⟨rfl, rfl⟩)
          · rintro v b ⟨rfl, rfl⟩
            exact ⟨rfl, _, by omega, by omega, rfl⟩
          · rintro v b ⟨rfl, k, k1, k2, rfl⟩
            exact ex_pure (h k p2 k1 k2 (pp2.trans pp1))
    · skip
      refine ex_bind (ex_rule ?_)
      refine ex_bind (Ex.mono (ex_for (fun i v b => ∃ (q : Nat) (p1 : Array Nat), p1.Perm a'.p ∧ b = { a' with p := p1 } ∧ v = fun _ => (none, i, q)) (fun v b => ∃ (k q : Nat) (p1 : Array Nat), p1.Perm a'.p ∧ b = { a' with p := p1 } ∧ m + 1 ≤ k ∧ k ≤ nrem ∧ v = fun _ => (none, k, q)) ⟨0, a'.p, Array.Perm.refl _, rfl, rfl⟩ ?_ ?_) ?_)
      · rintro i v b hi1 hi2 ⟨q, p1, pp1, rfl, rfl⟩
        have z1 : p1.size = a'.p.size := pp1.size_eq
        dsimp only
        refine ex_bind (ex_ltAt (hl.perm pp1) (by show lo + i < p1.size; omega) (by show lo + i - 1 < p1.size; omega) ?_)
        dsimp only
        refine ex_ite (fun _ => ex_ite (fun _ => ex_bind (ex_rev fun p2 pp2 => ex_yield ⟨0, p2, pp2.trans pp1, rfl, rfl⟩)) (fun _ => ex_yield ⟨0, p1, pp1, rfl, rfl⟩)) (fun _ => ?_)
        refine ex_bind (ex_ltAt (hl.perm pp1) (by show lo + i - 1 < p1.size; omega) (by show lo + i < p1.size; omega) ?_)
        dsimp only
        exact ex_ite (fun _ => ex_done ⟨i, q, p1, pp1, rfl, hi1, by omega, rfl⟩) (fun _ => ex_yield ⟨q + 1, p1, pp1, rfl, rfl⟩)
      · rintro v b ⟨q, p1, pp1, rfl, rfl⟩
        exact ⟨_, q, p1, pp1, rfl, by omega, by omega, rfl⟩
      · rintro v b ⟨k, q, p1, pp1, rfl, hk1, hk2, rfl⟩
        dsimp only
        refine ex_ite (fun _ => ex_bind (ex_rev fun p3 pp3 => ?_)) (fun _ => ?_)
        · skip
          refine ex_bind (ex_rev fun p2 pp2 => ?_)
          refine ex_bind (Ex.mono (ex_for (fun i v b => b = { a' with p := p2 } ∧ v = fun _ => (none, i)) (fun v b => b = { a' with p := p2 } ∧ ∃ k : Nat, 1 ≤ k ∧ k ≤ nrem ∧ v = fun _ => (none, k)) ⟨rfl, rfl⟩ ?_ ?_) ?_)
          · rintro i v b hi1 hi2 ⟨rfl, rfl⟩
            have z2 : p2.size = a'.p.size := (pp2.trans (pp3.trans pp1)).size_eq
            dsimp only
            refine ex_bind (ex_ltAt (hl.perm (pp2.trans (pp3.trans pp1))) (by show lo + i < p2.size; omega) (by show lo + i - 1 < p2.size; omega) ?_)
            dsimp only
            exact ex_ite (fun _ => ex_done ⟨rfl, i, by omega, by omega, rfl⟩) (fun _ => ex_yield ⟨rfl, rfl⟩)
          · rintro v b ⟨rfl, rfl⟩
            exact ⟨rfl, _, by omega, by omega, rfl⟩
          · rintro v b ⟨rfl, k, k1, k2, rfl⟩
            exact ex_pure (h k p2 k1 k2 (pp2.trans (pp3.trans pp1)))
        · skip
          refine ex_bind (ex_rev fun p2 pp2 => ?_)
          refine ex_bind (Ex.mono (ex_for (fun i v b => b = { a' with p := p2 } ∧ v = fun _ => (none, i)) (fun v b => b = { a' with p := p2 } ∧ ∃ k : Nat, 1 ≤ k ∧ k ≤ nrem ∧ v = fun _ => (none, k)) ⟨rfl, rfl⟩ ?_ ?_) ?_)
          · rintro i v b hi1 hi2 ⟨rfl, rfl⟩
            have z2 : p2.size = a'.p.size := (pp2.trans pp1).size_eq
            dsimp only
            refine ex_bind (ex_ltAt (hl.perm (pp2.trans pp1)) (by show lo + i < p2.size; omega) (by show lo + i - 1 < p2.size; omega) ?_)
            dsimp only
            exact ex_ite (fun _ => ex_done ⟨rfl, i, by omega, by omega, rfl⟩) (fun _ => ex_yield ⟨rfl, rfl⟩)
          · rintro v b ⟨rfl, rfl⟩
            exact ⟨rfl, _, by omega, by omega, rfl⟩
          · rintro v b ⟨rfl, k, k1, k2, rfl⟩
            exact ex_pure (h k p2 k1 k2 (pp2.trans pp1))
/-- runs one behind the other, from s to e -/
def Run : List (Nat × Nat × Nat) → Nat → Nat → Prop
  | [], s, e => s = e
  | x :: r, s, e => x.1 = s ∧ 1 ≤ x.2.1 ∧ Run r (s + x.2.1) e
theorem Run.le : ∀ {l : List (Nat × Nat × Nat)} {s e : Nat}, Run l s e → s ≤ e
  | [], _, _, h => Nat.le_of_eq h
  | x :: r, s, e, ⟨_, _, h⟩ => by have := Run.le h; omega
theorem Run.snoc : ∀ {l : List (Nat × Nat × Nat)} {s e m w : Nat}, Run l s e → 1 ≤ m → Run (l ++ [(e, m, w)]) s (e + m)
  | [], _, _, _, _, h, hm => ⟨h.symm, hm, by show _ + _ = _; rw [h]⟩
  | _ :: _, _, _, _, _, ⟨h1, h2, h3⟩, hm => ⟨h1, h2, Run.snoc h3 hm⟩
theorem Run.two : ∀ {l : List (Nat × Nat × Nat)} {s e i : Nat} {x y : Nat × Nat × Nat}, Run l s e → l[i]? = some x → l[i + 1]? = some y →
    y.1 = x.1 + x.2.1 ∧ y.1 + y.2.1 ≤ e ∧ 1 ≤ x.2.1 ∧ 1 ≤ y.2.1 ∧ Run ((l.set i (x.1, x.2.1 + y.2.1, x.2.2)).eraseIdx (i + 1)) s e
  | [], _, _, _, _, _, _, h, _ => by simp at h
  | [_], _, _, 0, _, _, _, _, h => by simp at h
  | a :: b :: r, s, e, 0, x, y, ⟨h1, h2, h3, h4, h5⟩, hx, hy => by
    simp at hx hy
    subst hx; subst hy
    have := h5.le
    refine ⟨by omega, by omega, h2, h4, h1, by show 1 ≤ a.2.1 + b.2.1; omega, ?_⟩
    show Run r (s + (a.2.1 + b.2.1)) e
    rw [← Nat.add_assoc]; exact h5
  | a :: r, s, e, i + 1, x, y, ⟨h1, h2, h3⟩, hx, hy => by
    obtain ⟨k1, k2, k3, k4, k5⟩ := Run.two (i := i) h3 (by simpa using hx) (by simpa using hy)
    exact ⟨k1, k2, k3, k4, h1, h2, k5⟩
theorem Run.last {f : Nat × Nat × Nat → Nat × Nat × Nat} (hf : ∀ x, (f x).1 = x.1 ∧ (f x).2.1 = x.2.1) : ∀ {l : List (Nat × Nat × Nat)} {s e : Nat}, Run l s e → Run (l.modify (l.length - 1) f) s e
  | [], _, _, h => h
  | [x], s, e, ⟨h1, h2, h3⟩ => by
    show Run [f x] s e
    exact ⟨by rw [(hf x).1]; exact h1, by rw [(hf x).2]; exact h2, by rw [(hf x).2]; exact h3⟩
  | a :: b :: r, s, e, ⟨h1, h2, h3⟩ => by
    have := Run.last hf h3
    have e1 : (a :: b :: r).length - 1 = ((b :: r).length - 1) + 1 := rfl
    rw [e1, List.modify_succ_cons]
    exact ⟨h1, h2, this⟩
end
end TS

namespace TS
open PySem PyProof.Rows
section
variable {n : Nat} {c : Nat → Nat → Bool} {α β : Type}
/-- r written into p from i on -/
def put {γ : Type} : List γ → Array γ → Nat → Array γ
  | [], p, _ => p
  | z :: r, p, i => put r (p.setIfInBounds i z) (i + 1)
theorem put_eq {γ : Type} (s : Nat) : ∀ (r : List γ) (k : Nat) (p : Array γ), (r.zipIdx k).foldl (fun a x => a.setIfInBounds (s + x.2) x.1) p = put r p (s + k)
  | [], _, _ => rfl
  | z :: r, k, p => by
    rw [List.zipIdx_cons, List.foldl_cons, put_eq s r (k + 1)]
    rfl
theorem put_map (f : Nat → Keyed) : ∀ (r : List Nat) (p : Array Nat) (i : Nat), put (r.map f) (p.map f) i = (put r p i).map f
  | [], _, _ => rfl
  | z :: r, p, i => by
    have e : (p.map f).setIfInBounds i (f z) = (p.setIfInBounds i z).map f := by simp [Array.map_setIfInBounds]
    show put (r.map f) ((p.map f).setIfInBounds i (f z)) (i + 1) = _
    rw [e]
    exact put_map f r _ _
theorem put_list : ∀ (r : List Nat) (p : Array Nat) (i : Nat), i + r.length ≤ p.size → (put r p i).toList = p.toList.take i ++ r ++ p.toList.drop (i + r.length)
  | [], p, i, _ => by simp [put]
  | z :: r, p, i, h => by
    simp only [List.length_cons] at h
    have e := put_list r (p.setIfInBounds i z) (i + 1) (by simp; omega)
    show (put r (p.setIfInBounds i z) (i + 1)).toList = _
    rw [e, Array.toList_setIfInBounds, List.take_add_one, List.getElem?_set_self (by simp; omega), List.take_set_of_le (Nat.le_refl _), List.drop_set_of_lt (by omega)]
    simp only [Option.toList_some, List.length_cons, List.append_assoc, List.cons_append, List.nil_append]
    rw [show i + 1 + r.length = i + (r.length + 1) by omega]
theorem put_perm {r p : Array Nat} {i j k : Nat} (hij : i ≤ j) (hjk : j ≤ k) (hk : k ≤ p.size) (h : r.toList.Perm ((p.extract i j).toList ++ (p.extract j k).toList)) : (put r.toList p i).Perm p := by
  have hl := h.length_eq
  simp only [List.length_append, Array.length_toList, Array.size_extract] at hl
  have hr : i + r.toList.length = k := by rw [Array.length_toList]; omega
  refine Array.perm_iff_toList_perm.mpr ?_
  rw [put_list _ _ _ (by omega), hr]
  have e1 := List.take_append_drop i p.toList
  have e2 := mid_eq (x := p) hij
  have e3 := mid_eq (x := p) hjk
  rw [e2, e3] at e1
  refine List.perm_iff_count.mpr fun z => ?_
  have h1 := h.count_eq z
  have h2 := congrArg (List.count z) e1
  simp only [List.count_append] at h1 h2 ⊢
  omega
theorem ex_mergeAt {i e : Nat} {a : AS} {R : (Wl n c → Bool) → AS → Prop} (hl : Lo n a.p) (hr : Run a.pend.toList 0 e) (he : e ≤ a.p.size) (hi : i + 1 < a.pend.size)
    (h : ∀ a' : AS, a'.p.Perm a.p → Run a'.pend.toList 0 e → R (fun _ => true) a') : Ex (fun _ => (sortPriv% PySem.Builtin.mergeAt) i) a R := by
  have e1 : a.pend[i]? = some a.pend[i] := by simp
  have e2 : a.pend[i + 1]? = some a.pend[i + 1] := by simp
  obtain ⟨k1, k2, k3, k4, k5⟩ := Run.two (i := i) hr (by rw [Array.getElem?_toList]; exact e1) (by rw [Array.getElem?_toList]; exact e2)
  generalize a.pend[i] = x at e1 k1 k2 k3 k4 k5
  generalize a.pend[i + 1] = y at e2 k1 k2 k3 k4 k5
  obtain ⟨sa, na, pw⟩ := x
  obtain ⟨sb, nb, pw'⟩ := y
  dsimp only at k1 k2 k3 k4 k5
  refine ex_bind (ex_get ?_)
  dsimp only
  simp only [e1, e2]
  have run' : Run ((a.pend.setIfInBounds i (sa, na + nb, pw)).eraseIdxIfInBounds (i + 1)).toList 0 e := by
    have : ((a.pend.setIfInBounds i (sa, na + nb, pw)).eraseIdxIfInBounds (i + 1)).toList = (a.pend.toList.set i (sa, na + nb, pw)).eraseIdx (i + 1) := by simp
    rw [this]; exact k5
  refine ex_bind (ex_set (a' := { a with pend := (a.pend.setIfInBounds i (sa, na + nb, pw)).eraseIdxIfInBounds (i + 1) }) (fun _ => rfl) ?_)
  refine ex_bind (ex_elem (by omega) (ex_bind (ex_gallop (hl _ (by omega)) hl (by omega) (by omega) fun k hk => ?_)))
  dsimp only
  refine ex_ite (fun _ => ex_pure (h _ (Array.Perm.refl _) run')) (fun q => ?_)
  have q' := eN q
  refine ex_bind (ex_elem (by omega) (ex_bind (ex_gallop (hl _ (by omega)) hl (by omega) (by omega) fun k' hk' => ?_)))
  dsimp only
  refine ex_ite (fun _ => ex_pure (h _ (Array.Perm.refl _) run')) (fun q2 => ?_)
  have q2' := eN q2
  simp only [← Array.map_extract]
  have sx : (a.p.extract (sa + k) sb).size = na - k := by rw [Array.size_extract]; omega
  have sy : (a.p.extract sb (sb + k')).size = k' := by rw [Array.size_extract]; omega
  have fin : ∀ (r : Array Nat) (g : Nat), r.toList.Perm ((a.p.extract (sa + k) sb).toList ++ (a.p.extract sb (sb + k')).toList) → Ex (fun W : Wl n c => do
      let u ← (modify fun s => (sortPriv% PySem.Builtin.SortState.mk) ((sortPriv% PySem.Builtin.SortState.kind) s) (((r.map W.it).toList.zipIdx).foldl (fun a x => a.setIfInBounds (sa + k + x.2) x.1) ((sortPriv% PySem.Builtin.SortState.a) s)) ((sortPriv% PySem.Builtin.SortState.pending) s) ((sortPriv% PySem.Builtin.SortState.minGallop) s) ((sortPriv% PySem.Builtin.SortState.failed) s) : StateT SortSt Sem PUnit)
      let s ← get
      pure ((sortPriv% PySem.Builtin.SortState.failed) s).isNone) { a with pend := (a.pend.setIfInBounds i (sa, na + nb, pw)).eraseIdxIfInBounds (i + 1), gal := g } R := fun r g pr => by
    refine ex_bind (ex_modify (a' := { p := put r.toList a.p (sa + k), pend := (a.pend.setIfInBounds i (sa, na + nb, pw)).eraseIdxIfInBounds (i + 1), gal := g }) (fun W => ?_) ?_)
    · show SortSt.mk' W.κ (((r.map W.it).toList.zipIdx).foldl (fun a x => a.setIfInBounds (sa + k + x.2) x.1) (a.p.map W.it)) _ _ _ = SortSt.mk' W.κ ((put r.toList a.p (sa + k)).map W.it) _ _ _
      rw [put_eq, Array.toList_map, put_map]
      rfl
    · refine ex_bind (ex_get ?_)
      exact ex_pure (h _ (put_perm (by omega) (by omega) (by omega) pr) run')
  refine ex_ite (fun _ => ?_) (fun _ => ?_)
  · refine ex_bind (ex_mergeLo (hl.ext _ _) (hl.ext _ _) (by omega) (by omega) fun r g pr => ?_)
    exact fin r g pr
  · refine ex_bind (ex_mergeHi (hl.ext _ _) (hl.ext _ _) (by omega) (by omega) fun r g pr => ?_)
    exact fin r g pr
end
end TS

namespace TS
open PySem PyProof.Rows
section
variable {n : Nat} {c : Nat → Nat → Bool} {α β : Type}
theorem ite_lt1 {P : Prop} {D : Decidable P} {x y z : Nat} (h1 : x + 1 < z) (h2 : y + 1 < z) : (@ite _ P D x y) + 1 < z := by
  by_cases h : P
  · rw [if_pos h]; exact h1
  · rw [if_neg h]; exact h2
theorem ex_sortRuns {a : AS} {R : (Wl n c → Unit) → AS → Prop} (hl : Lo n a.p) (hp : a.pend = #[]) (h : ∀ a' : AS, a'.p.Perm a.p → R (fun _ => ()) a') : Ex (fun _ => (sortPriv% PySem.Builtin.sortRuns)) a R := by
  refine ex_bind (ex_get ?_)
  dsimp only
  simp only [Array.size_map]
  refine ex_bind (Ex.mono (ex_for (fun _ v a' => ∃ lo : Nat, (v = fun _ => (none, lo)) ∧ a'.p.Perm a.p ∧ Run a'.pend.toList 0 lo ∧ lo ≤ a.p.size) (fun v a' => ∃ lo : Nat, (v = fun _ => (none, lo)) ∧ a'.p.Perm a.p ∧ Run a'.pend.toList 0 lo ∧ lo ≤ a.p.size)
    ⟨0, rfl, Array.Perm.refl _, by rw [hp]; rfl, Nat.zero_le _⟩ ?_ (fun _ _ h => h)) ?_)
  · rintro i v a' _ _ ⟨lo, rfl, pp, hr, hlo⟩
    have sz : a'.p.size = a.p.size := pp.size_eq
    dsimp only
    refine ex_ite (fun _ => ex_done ⟨lo, rfl, pp, hr, hlo⟩) (fun q => ex_bind (ex_count (hl.perm pp) (by omega) (by omega) fun m p1 hm1 hm2 pp1 => ?_))
    have pq := pp1.trans pp
    dsimp only
    refine ex_ite (fun hlt => ?_) (fun hlt => ?_)
    · refine ex_bind (ex_rule (ex_bind (ex_binary (hl.perm pq) (by show lo + _ ≤ p1.size; have := pq.size_eq; omega) fun p2 pp2 => ?_)))
      have pr := pp2.trans pq
      refine ex_ite (fun q => absurd q (by decide)) fun _ => ?_
      refine ex_bind (ex_get ?_)
      dsimp only
      cases hb : a'.pend.back? with
      | none =>
        dsimp only
        refine ex_bind (ex_modify (a' := { p := p2, pend := a'.pend.push (lo, _, 0), gal := a'.gal }) (fun _ => rfl) ?_)
        exact ex_yield ⟨_, rfl, pr, by rw [Array.toList_push]; exact hr.snoc (by omega), by omega⟩
      | some x =>
        obtain ⟨s1, n1, w1⟩ := x
        dsimp only
        refine ex_bind (Ex.mono (ex_for (fun _ v b => (v = fun _ => (none, ())) ∧ b.p.Perm a.p ∧ Run b.pend.toList 0 lo) (fun v b => (v = fun _ => (none, ())) ∧ b.p.Perm a.p ∧ Run b.pend.toList 0 lo) ⟨rfl, pr, hr⟩ ?_ (fun _ _ h => h)) ?_)
        · rintro j v b _ _ ⟨rfl, pb, rb⟩
          have sb : b.p.size = a.p.size := pb.size_eq
          refine ex_bind (ex_get ?_)
          dsimp only
          by_cases c1 : b.pend.size > 1
          · have e1 : b.pend[b.pend.size - 2]? = some (b.pend[b.pend.size - 2]'(by omega)) := Array.getElem?_eq_getElem _
            generalize b.pend[b.pend.size - 2]'(by omega) = x at e1
            obtain ⟨x1, x2, x3⟩ := x
            simp only [if_pos c1, e1]
            refine ex_ite (fun _ => ex_done ⟨rfl, pb, rb⟩) (fun _ => ex_bind (ex_mergeAt (hl.perm pb) rb (by omega) (by omega) fun b' pb' rb' => ?_))
            exact ex_ite (fun q => absurd q (by decide)) fun _ => ex_yield ⟨rfl, pb'.trans pb, rb'⟩
          · simp only [if_neg c1]
            exact ex_done ⟨rfl, pb, rb⟩
        · rintro v b ⟨rfl, pb, rb⟩
          dsimp only
          refine ex_bind (ex_modify (a' := { b with pend := b.pend.modify (b.pend.size - 1) fun x => (x.1, x.2.1, _) }) (fun _ => rfl) ?_)
          refine ex_bind (ex_modify (a' := { b with pend := (b.pend.modify (b.pend.size - 1) fun x => (x.1, x.2.1, _)).push (lo, _, 0) }) (fun _ => rfl) ?_)
          refine ex_yield ⟨_, rfl, pb, ?_, by omega⟩
          rw [Array.toList_push, Array.toList_modify]
          refine Run.snoc ?_ (by omega)
          have key := fun w => Run.last (f := fun x => (x.1, x.2.1, w)) (fun x => ⟨rfl, rfl⟩) rb
          simp only [Array.length_toList] at key
          exact key _
    · skip
      refine ex_bind (ex_get ?_)
      dsimp only
      cases hb : a'.pend.back? with
      | none =>
        dsimp only
        refine ex_bind (ex_modify (a' := { p := p1, pend := a'.pend.push (lo, _, 0), gal := a'.gal }) (fun _ => rfl) ?_)
        exact ex_yield ⟨_, rfl, pq, by rw [Array.toList_push]; exact hr.snoc (by omega), by omega⟩
      | some x =>
        obtain ⟨s1, n1, w1⟩ := x
        dsimp only
        refine ex_bind (Ex.mono (ex_for (fun _ v b => (v = fun _ => (none, ())) ∧ b.p.Perm a.p ∧ Run b.pend.toList 0 lo) (fun v b => (v = fun _ => (none, ())) ∧ b.p.Perm a.p ∧ Run b.pend.toList 0 lo) ⟨rfl, pq, hr⟩ ?_ (fun _ _ h => h)) ?_)
        · rintro j v b _ _ ⟨rfl, pb, rb⟩
          have sb : b.p.size = a.p.size := pb.size_eq
          refine ex_bind (ex_get ?_)
          dsimp only
          by_cases c1 : b.pend.size > 1
          · have e1 : b.pend[b.pend.size - 2]? = some (b.pend[b.pend.size - 2]'(by omega)) := Array.getElem?_eq_getElem _
            generalize b.pend[b.pend.size - 2]'(by omega) = x at e1
            obtain ⟨x1, x2, x3⟩ := x
            simp only [if_pos c1, e1]
            refine ex_ite (fun _ => ex_done ⟨rfl, pb, rb⟩) (fun _ => ex_bind (ex_mergeAt (hl.perm pb) rb (by omega) (by omega) fun b' pb' rb' => ?_))
            exact ex_ite (fun q => absurd q (by decide)) fun _ => ex_yield ⟨rfl, pb'.trans pb, rb'⟩
          · simp only [if_neg c1]
            exact ex_done ⟨rfl, pb, rb⟩
        · rintro v b ⟨rfl, pb, rb⟩
          dsimp only
          refine ex_bind (ex_modify (a' := { b with pend := b.pend.modify (b.pend.size - 1) fun x => (x.1, x.2.1, _) }) (fun _ => rfl) ?_)
          refine ex_bind (ex_modify (a' := { b with pend := (b.pend.modify (b.pend.size - 1) fun x => (x.1, x.2.1, _)).push (lo, _, 0) }) (fun _ => rfl) ?_)
          refine ex_yield ⟨_, rfl, pb, ?_, by omega⟩
          rw [Array.toList_push, Array.toList_modify]
          refine Run.snoc ?_ (by omega)
          have key := fun w => Run.last (f := fun x => (x.1, x.2.1, w)) (fun x => ⟨rfl, rfl⟩) rb
          simp only [Array.length_toList] at key
          exact key _
  · rintro v a' ⟨lo, rfl, pp, hr, hlo⟩
    have sz : a'.p.size = a.p.size := pp.size_eq
    dsimp only
    refine ex_bind (Ex.mono (ex_for (fun _ v b => (v = fun _ => (none, ())) ∧ b.p.Perm a.p ∧ Run b.pend.toList 0 lo) (fun v b => (v = fun _ => (none, ())) ∧ b.p.Perm a.p) ⟨rfl, pp, hr⟩ ?_ (fun _ _ h => ⟨h.1, h.2.1⟩)) ?_)
    · rintro i v b _ _ ⟨rfl, pb, rb⟩
      have sb : b.p.size = a.p.size := pb.size_eq
      refine ex_bind (ex_get ?_)
      dsimp +instances only
      refine ex_ite (fun _ => ex_done ⟨rfl, pb⟩) (fun q => ex_bind (ex_mergeAt (hl.perm pb) rb (by omega) ?_ fun b' pb' rb' => ?_))
      · exact ite_lt1 (by omega) (by omega)
      exact ex_ite (fun q => absurd q (by decide)) fun _ => ex_yield ⟨rfl, pb'.trans pb, rb'⟩
    · rintro v b ⟨rfl, pb⟩
      exact ex_pure (h b pb)
/-- the order that sorting gives, for a way of comparing -/
theorem sort_det (n : Nat) (c : Nat → Nat → Bool) : ∃ p : Array Nat, p.toList.Perm (List.range n) ∧ ∀ (W : Wl n c) (Q : Unit → SortSt → Prop), (∀ st', arrOf st' = p.map W.it → failedOf st' = none → Q () st') →
    wpS (model W.prog W.w) W.A W.E W.s sortRuns' Q (SortSt.mk' W.κ ((List.toArray (List.range n)).map W.it) #[] 7 none) := by
  have hl : Lo n (List.toArray (List.range n)) := lo_mem.mpr fun z hz => by simpa using hz
  obtain ⟨v, a', hp, e⟩ := ex_sortRuns (c := c) (a := ⟨List.toArray (List.range n), #[], 7⟩) (R := fun _ a' => a'.p.Perm (List.toArray (List.range n))) hl rfl fun a' h => h
  refine ⟨a'.p, by have := Array.perm_iff_toList_perm.mp hp; simpa using this, fun W Q q => ?_⟩
  exact e W Q (q _ rfl rfl)
noncomputable def ord (n : Nat) (c : Nat → Nat → Bool) : Array Nat := (sort_det n c).choose
theorem ord_perm (n : Nat) (c : Nat → Nat → Bool) : (ord n c).toList.Perm (List.range n) := (sort_det n c).choose_spec.1
theorem ord_wp {n : Nat} {c : Nat → Nat → Bool} (W : Wl n c) {Q : Unit → SortSt → Prop} (h : ∀ st', arrOf st' = (ord n c).map W.it → failedOf st' = none → Q () st') :
    wpS (model W.prog W.w) W.A W.E W.s sortRuns' Q (SortSt.mk' W.κ ((List.toArray (List.range n)).map W.it) #[] 7 none) := (sort_det n c).choose_spec.2 W Q h
end
end TS

namespace L2
open PySem PySem.Spec PyProof.Rows
/-! ### sorted, of any length: one order for each way of comparing -/
section
variable {α : Type}
noncomputable def srtB (lt : α → α → Bool) (d : α) (xs : List α) : List α := if xs.length < 2 then xs else (TS.ord xs.length fun i j => lt (xs.getD i d) (xs.getD j d)).toList.map fun i => xs.getD i d
theorem map_range_getD (xs : List α) (d : α) : (List.range xs.length).map (fun i => xs.getD i d) = xs := by
  refine List.ext_getElem? fun i => ?_
  by_cases h : i < xs.length
  · rw [List.getElem?_map, List.getElem?_range h, List.getElem?_eq_getElem h]
    simp [List.getD_eq_getElem?_getD, h]
  · rw [List.getElem?_eq_none (by simpa using h), List.getElem?_eq_none (by simpa using h)]
theorem srtB_perm (lt : α → α → Bool) (d : α) (xs : List α) : (srtB lt d xs).Perm xs := by
  unfold srtB
  split
  · exact List.Perm.refl _
  · have := (TS.ord_perm xs.length fun i j => lt (xs.getD i d) (xs.getD j d)).map fun i => xs.getD i d
    rw [map_range_getD] at this
    exact this
end
section
variable {prog : Program} {w : World} {A : Around} {E : Value → Shared → Prop} {s : Shared}
theorem sort_big {a : Addr} {vs : List Value} {n : Nat} {κ : SortKind} {c : Nat → Nat → Bool} {P : PySem.Fin → Shared → Prop} (ho : s.heap.get? a = some (seqObj "list" vs.toArray n)) (h2 : 2 ≤ vs.length) (hm : vs.length ≤ 10000)
    (hk : ∀ h' : Heap, (∀ b o, b ≠ a → s.heap.get? b = some o → h'.get? b = some o) → ∀ Q : SortKind → Shared → Prop, Q κ { s with heap := h' } → wpAny (model prog w) A (keyKind' vs.toArray) Q E { s with heap := h' })
    (hc : ∀ h' : Heap, (∀ b o, b ≠ a → s.heap.get? b = some o → h'.get? b = some o) → ∀ i j (C : Bool → Shared → Prop), i < vs.length → j < vs.length → C (c i j) { s with heap := h' } → wpAny (model prog w) A (keyLt' κ (vs.getD i Value.none) (vs.getD j Value.none)) C (fun _ _ => False) { s with heap := h' })
    (h : P (.done (.ret .none)) { s with heap := sortedHeap s.heap a vs (List.toArray ((TS.ord vs.length c).toList.map fun i => vs.getD i Value.none)) }) :
    wpAny (model prog w) A (Builtin.«list.sort» ⟨[.ref a], []⟩) P E s := by
  rw [list_sort_plain]
  have ha : a < s.heap.objs.size := Heap.lt_size ho
  refine wpAny_bind (listItems_at ho rfl ?_)
  refine wpAny_bind (listUpdate_at ho rfl ?_)
  obtain ⟨e1, ho1⟩ : ∃ e1, (s.heap.update a (Obj.mapSeq fun _ => #[])).get? a = some (seqObj "list" #[] e1) := ⟨_, get?_update_seq ho (fun _ => #[])⟩
  refine wpAny_bind (seqEpoch_at ho1 rfl ?_)
  refine wpAny_bind (wpAny_newTuple ?_)
  refine wpAny_bind (wpAny_newList ?_)
  refine wpAny_holding ?_
  have ho6 : (((s.heap.update a (Obj.mapSeq fun _ => #[])).push (seqObj "tuple" vs.toArray 0)).push (seqObj "list" #[] 0)).get? a = some (seqObj "list" #[] e1) := by
    rw [Heap.get?_push_ne _ _ _ (by rw [size_push', Heap.size_update]; exact Nat.ne_of_lt (Nat.lt_succ_of_lt ha)), Heap.get?_push_ne _ _ _ (by rw [Heap.size_update]; exact Nat.ne_of_lt ha)]
    exact ho1
  have old : ∀ b o, b ≠ a → s.heap.get? b = some o → (((s.heap.update a (Obj.mapSeq fun _ => #[])).push (seqObj "tuple" vs.toArray 0)).push (seqObj "list" #[] 0)).get? b = some o := fun b o hb e =>
    Heap.get?_push_of_some _ (Heap.get?_push_of_some _ ((Heap.get?_update_other _ _ (Ne.symm hb)).trans e))
  show wpAny (model prog w) A _ P E { s with heap := ((s.heap.update a (Obj.mapSeq fun _ => #[])).push (seqObj "tuple" vs.toArray 0)).push (seqObj "list" #[] 0) }
  dsimp only
  have hsz : vs.toArray.size = vs.length := by simp
  have n2 : ¬ vs.toArray.size < 2 := by omega
  rw [if_neg n2, if_neg n2]
  refine wpAny_bind (hk _ old _ ?_)
  have run := TS.ord_wp (c := c) (n := vs.length) ⟨prog, w, A, E, { s with heap := ((s.heap.update a (Obj.mapSeq fun _ => #[])).push (seqObj "tuple" vs.toArray 0)).push (seqObj "list" #[] 0) }, κ, PySem.W.kas_item (vs.toArray.zip vs.toArray), fun i j hi hj C hC => by
    rw [PySem.W.kat_item rfl, PySem.W.kat_item rfl]
    exact hc _ old i j C hi hj hC⟩ (Q := fun _ st' => arrOf st' = (TS.ord vs.length c).map (PySem.W.kas_item (vs.toArray.zip vs.toArray)) ∧ failedOf st' = none) (fun st' e1 e2 => ⟨e1, e2⟩)
  have est : (List.toArray (List.range vs.length)).map (PySem.W.kas_item (vs.toArray.zip vs.toArray)) = vs.toArray.zip vs.toArray := by
    have e := PySem.W.kas_range (vs.toArray.zip vs.toArray)
    rw [show (vs.toArray.zip vs.toArray).size = vs.length by simp] at e
    exact e
  dsimp only at run
  rw [est] at run
  refine wpAny_bind (wpAny_mono run ?_ fun _ _ e => e)
  rintro ⟨⟨⟩, st'⟩ s' ⟨rfl, har, hf⟩
  dsimp only at har hf
  have hsz' : (TS.ord vs.length c).toList.length = vs.length := by have := (TS.ord_perm vs.length c).length_eq; rw [List.length_range] at this; exact this
  have hm' := PySem.W.kat_snds (ks := vs) (vs := vs) rfl har
  dsimp only
  refine wpAny_bind (seqEpoch_at ho6 rfl ?_)
  refine wpAny_bind (listUpdate_at ho6 rfl ?_ (hsz2 := by rw [hm', List.size_toArray, List.length_map, hsz', sizeLine_eq]; omega))
  rw [hf]
  simp only [bne_self_eq_false, Bool.false_eq_true, if_false]
  refine wpAny_pure ?_
  rw [hm']
  exact h
end
section
variable {X : Cx} {β : Type}
theorem sorted_big {F : V → β → Prop} {d : β} {lt : β → β → Bool} {pins : List (Addr × Obj)} {s : Shared} {σ : St} {H : Hp} {Q : VK} (I : Inv X pins σ H s) {a : Addr} {vs : List V} {bs : List β} (pb : Paired F vs bs) (hm : vs.length ≤ 10000) {κ : SortKind}
    (hcol : ∀ R : List Value → Shared → Prop, (∀ (its : List Value) (h' : Heap) (tk : Nat), Vals vs its → (∀ b o, s.heap.get? b = some o → h'.get? b = some o) → R its { s with heap := h', toks := tk }) → wpAny (model X.prog X.w) X.A.in1 (collect (.ref a)) R X.xe s)
    (hk : ∀ (its : List Value) (h' : Heap) (tk : Nat), Vals vs its → Inv X pins σ H { s with heap := h', toks := tk } → 2 ≤ vs.length → ∀ (E : Value → Shared → Prop) (Q : SortKind → Shared → Prop), Q κ { s with heap := h', toks := tk } → wpAny (model X.prog X.w) X.A.in1.in1 (keyKind' its.toArray) Q E { s with heap := h', toks := tk })
    (hc : ∀ (h' : Heap) (tk : Nat), Inv X pins σ H { s with heap := h', toks := tk } → ∀ (x y : V) (b c : β) (u v : Value), F x b → F y c → RelV x u → RelV y v → ∀ (C : Bool → Shared → Prop), C (lt b c) { s with heap := h', toks := tk } →
      wpAny (model X.prog X.w) X.A.in1.in1 (keyLt' κ u v) C (fun _ _ => False) { s with heap := h', toks := tk })
    (q : ∀ (l : Addr) (ys : List V), H l = none → Paired F ys (srtB lt d bs) → Q (.ref l) (upd H l (.lst ys))) :
    wpAny (model X.prog X.w) X.A (call (.builtin "sorted") [.ref a]) (EP X pins σ Q) X.xe s := by
  have lb := pb.length
  refine PySem.Calls.call_function_entry kind_sorted plain_sorted entry_sorted (args_sorted1 _) ?_
  unfold Builtin.«sorted»
  refine wpAny_bind (m := checkCount "sorted" 1 1 _) (wpAny_pure ?_)
  refine wpAny_bind (hcol _ fun its h1 tk rv keep => ?_)
  have lv := rv.length
  refine wpAny_bind (wpAny_newList ?_ (by rw [sizeLine_eq]; omega))
  have hoL : (h1.push (seqObj "list" its.toArray 0)).get? h1.objs.size = some (seqObj "list" its.toArray 0) := Heap.get?_push_size _ rfl
  have keep2 : ∀ b o, s.heap.get? b = some o → (h1.push (seqObj "list" its.toArray 0)).get? b = some o := fun b o e => Heap.get?_push_of_some _ (keep b o e)
  show wpAny _ _ _ _ _ { s with heap := h1.push (seqObj "list" its.toArray 0), toks := tk }
  have nal : s.heap.get? h1.objs.size = none := by
    cases e : s.heap.get? h1.objs.size with
    | none => rfl
    | some o => exact absurd (Heap.lt_size (keep _ _ e)) (Nat.lt_irrefl _)
  have fin : ∀ (ws : List Value) (ys : List V), Vals ys ws → ys.length ≤ sizeLine → Paired F ys (srtB lt d bs) → EP X pins σ Q (.ref h1.objs.size) { s with heap := sortedHeap (h1.push (seqObj "list" its.toArray 0)) h1.objs.size its ws.toArray, toks := tk } := fun ws ys rw' hy py => by
    obtain ⟨e, he⟩ := sortedHeap_at (out := ws.toArray) hoL
    refine ⟨.ref h1.objs.size, _, I.laidAt (t' := tk) (o := .lst ys) (fun b u eb => ?_) nal ⟨hy, ws, e, rw', he⟩, rfl, q _ ys (I.hok.noneAt nal) py⟩
    have e1 := keep b u eb
    have lt := Heap.lt_size e1
    rw [sortedHeap_old (Nat.ne_of_lt lt) (Heap.lt_size (keep2 b u eb))]
    exact keep2 b u eb
  refine wpAny_bind (wpAny_holding (wpAny_call_entry slot_list_sort ⟨_, hoL, rfl⟩ entry_list_sort ?body (args_list_sort _)))
  case body =>
    by_cases c2 : vs.length < 2
    · have eo : srtB lt d bs = bs := by
        unfold srtB
        rw [if_pos (by omega)]
      refine sort_few hoL (by omega) ⟨.none, rfl, wpAny_pure ⟨_, rfl, fin its vs rv (by rw [sizeLine_eq]; omega) (by rw [eo]; exact pb)⟩⟩
    · have inv : ∀ h' : Heap, (∀ b o, b ≠ h1.objs.size → (h1.push (seqObj "list" its.toArray 0)).get? b = some o → h'.get? b = some o) → Inv X pins σ H { s with heap := h', toks := tk } := fun h' k => I.kept (t' := tk) fun b o e => k b o (Nat.ne_of_lt (Heap.lt_size (keep b o e))) (keep2 b o e)
      refine sort_big (s := { s with heap := h1.push (seqObj "list" its.toArray 0), toks := tk }) (κ := κ) (c := fun i j => lt (bs.getD i d) (bs.getD j d)) hoL (by omega) (by omega) (fun h' k Q' hq => hk its h' tk rv (inv h' k) (by omega) _ Q' hq) (fun h' k i j C hi hj hC => ?_) ⟨.none, rfl, wpAny_pure ⟨_, rfl, ?_⟩⟩
      · have ei : vs[i]? = some (vs[i]'(by omega)) := List.getElem?_eq_getElem (by omega)
        have ej : vs[j]? = some (vs[j]'(by omega)) := List.getElem?_eq_getElem (by omega)
        obtain ⟨u, u1, u2⟩ := vals_get rv ei
        obtain ⟨v, v1, v2⟩ := vals_get rv ej
        obtain ⟨b, b1, b2⟩ := L2.Paired.get pb ei
        obtain ⟨c, c1, c2'⟩ := L2.Paired.get pb ej
        have g1 : its.getD i Value.none = u := by rw [List.getD_eq_getElem?_getD, u1]; rfl
        have g2 : its.getD j Value.none = v := by rw [List.getD_eq_getElem?_getD, v1]; rfl
        have g3 : bs.getD i d = b := by rw [List.getD_eq_getElem?_getD, b1]; rfl
        have g4 : bs.getD j d = c := by rw [List.getD_eq_getElem?_getD, c1]; rfl
        rw [g1, g2]
        rw [g3, g4] at hC
        exact hc h' tk (inv h' k) _ _ b c u v b2 c2' u2 v2 C hC
      · have key : ∀ l : List Nat, (∀ i ∈ l, i < bs.length) → Vals (l.map fun i => vs.getD i .non) (l.map fun i => its.getD i Value.none) ∧ Paired F (l.map fun i => vs.getD i .non) (l.map fun i => bs.getD i d) := by
          intro l
          induction l with
          | nil => intro _; exact ⟨.nil, .nil⟩
          | cons i l ih =>
            intro hl'
            have hi := hl' i List.mem_cons_self
            obtain ⟨k1, k2⟩ := ih fun j hj => hl' j (List.mem_cons_of_mem _ hj)
            have ei : vs[i]? = some (vs[i]'(by omega)) := List.getElem?_eq_getElem (by omega)
            obtain ⟨u, u1, u2⟩ := vals_get rv ei
            obtain ⟨b, b1, b2⟩ := L2.Paired.get pb ei
            simp only [List.map_cons, List.getD_eq_getElem?_getD, ei, u1, b1, Option.getD_some]
            simp only [List.getD_eq_getElem?_getD] at k1 k2
            exact ⟨.cons u2 k1, .cons b2 k2⟩
        have pm := TS.ord_perm bs.length fun i j => lt (bs.getD i d) (bs.getD j d)
        have el : its.length = bs.length := by omega
        rw [el]
        obtain ⟨k1, k2⟩ := key (TS.ord bs.length fun i j => lt (bs.getD i d) (bs.getD j d)).toList fun i hi => List.mem_range.mp (pm.mem_iff.mp hi)
        have es : srtB lt d bs = (TS.ord bs.length fun i j => lt (bs.getD i d) (bs.getD j d)).toList.map fun i => bs.getD i d := by
          unfold srtB
          rw [if_neg (by omega)]
        refine fin _ _ k1 ?_ (by rw [es]; exact k2)
        have := pm.length_eq
        rw [List.length_map, this, List.length_range, sizeLine_eq]
        omega
/-- a tuple of ints, at least one -/
theorem lt_tup {pins : List (Addr × Obj)} {s : Shared} {σ : St} {H : Hp} (I : Inv X pins σ H s) {x y : V} {b c : List Int} {u v : Value} (fx : isTup H x b) (fy : isTup H y c) (rx : RelV x u) (ry : RelV y v) {A : Around} {C : Bool → Shared → Prop} (hC : C (HT.lexLt b c) s) :
    wpAny (model X.prog X.w) A (keyLt' (tuples' (Value.type "int" != Value.type "tuple")) u v) C (fun _ _ => False) s := by
  obtain ⟨p, e, hp⟩ := fx
  obtain ⟨p', e', hp'⟩ := fy
  subst e e'
  cases rx
  cases ry
  obtain ⟨us, ru, pl, _⟩ := I.tuple (SqT.of (K := X.K) hp)
  obtain ⟨us', ru', pl', _⟩ := I.tuple (SqT.of (K := X.K) hp')
  obtain ⟨o, ho1, hc1, n, hd1⟩ := id pl
  obtain ⟨o', ho2, hc2, n', hd2⟩ := id pl'
  refine PySem.W.kat_lt ho1 hd1 ho2 hd2 ?_
  exact katlex_ints (intsAre_of ru) (intsAre_of ru') hC (by omega) (by simp)
theorem kind_tup {pins : List (Addr × Obj)} {s : Shared} {σ : St} {H : Hp} (I : Inv X pins σ H s) {vs : List V} {its : List Value} {sts : List (List Int)} (rv : Vals vs its) (pb : Paired (isTup H) vs sts) (hn : ∀ st ∈ sts, st ≠ []) (h2 : 2 ≤ vs.length) {A : Around} {E : Value → Shared → Prop} {Q : SortKind → Shared → Prop} (hq : Q (tuples' (Value.type "int" != Value.type "tuple")) s) :
    wpAny (model X.prog X.w) A (keyKind' its.toArray) Q E s := by
  obtain ⟨fs, k1, k2, k3⟩ := katTups_of I rv pb hn
  have := rv.length
  refine PySem.W.kat_kind k1 (by omega) (fun f hf => ?_) rfl hq
  obtain ⟨i, t, rfl⟩ := k3 f hf
  exact PySem.W.Looks.of_pure rfl
inductive I_sortT (K : PySem.W.Frag) (xs : List V) (H : Hp) (Q : VK) : Prop
  | mk (a : Addr) (vs : List V) (sts : List (List Int)) (h0 : xs = [.ref a]) (h1 : SqL K H a vs) (h2 : Paired (isTup H) vs sts) (h3 : vs.length ≤ 10000) (h4 : ∀ st ∈ sts, st ≠ []) (h5 : ∀ (l : Addr) (ys : List V), H l = none → Paired (isTup H) ys (srtB HT.lexLt [] sts) → Q (.ref l) (upd H l (.lst ys))) : I_sortT K xs H Q
theorem call_sortT : CallR X (.builtin "sorted") (I_sortT X.K) := by
  intro pins s σ H xs us Q I r h
  obtain ⟨a, vs, sts, rfl, hl, pb, hm, hn, q⟩ := h
  obtain ⟨u, rfl, ru⟩ := vals1 r
  cases ru
  obtain ⟨its, rv, pl, hz⟩ := I.list hl
  refine sorted_big (κ := tuples' (Value.type "int" != Value.type "tuple")) I pb hm (fun R hR => ?_) (fun its h' tk rv I' h2 E' Q' hq => kind_tup I' rv pb hn h2 hq) (fun h' tk I' x y b c u v fx fy rx ry C hC => lt_tup I' fx fy rx ry hC) q
  refine collect_list pl.isList ?_ (by have := rv.length; rw [sizeLine_eq]; omega)
  refine hR its _ s.toks rv fun b o e => ?_
  have hlt : b < s.heap.objs.size := Heap.lt_size e
  rw [Heap.get?_update_ne _ _ _ _ (Nat.ne_of_lt hlt), Heap.get?_push_ne _ _ _ (Nat.ne_of_lt hlt)]
  exact e
inductive I_sortDT (xs : List V) (H : Hp) (Q : VK) : Prop
  | mk (a : Addr) (kvs : List (List Key × V)) (sts : List (List Int)) (h0 : xs = [.ref a]) (h1 : Rd H a (.dT kvs)) (h2 : kvs.map (·.1) = sts.map fun st => st.map Sum.inl) (h3 : kvs.length ≤ 10000) (h4 : ∀ st ∈ sts, st ≠ []) (h5 : ∀ (l : Addr) (ys : List V), H l = none → Paired (isTup H) ys (srtB HT.lexLt [] sts) → Q (.ref l) (upd H l (.lst ys))) : I_sortDT xs H Q
theorem keys_tup {H : Hp} : ∀ {kvs : List (List Key × V)} {xs : List (List Key × Addr × Value)} {sts : List (List Int)}, KT H kvs xs → kvs.map (·.1) = sts.map (fun st => st.map Sum.inl) → Paired (isTup H) (xs.map fun q => V.ref q.2.1) sts
  | _, _, [], .nil, _ => .nil
  | _, _, _ :: _, .nil, e => by simp at e
  | _, _, [], .cons _ _, e => by simp at e
  | _, _, st :: sts, .cons h t, e => by
    rw [List.map_cons, List.map_cons, List.cons.injEq] at e
    refine .cons ⟨_, rfl, ?_⟩ (keys_tup t e.2)
    have := h.2.1
    rw [e.1, List.map_map] at this
    exact this
theorem call_sortDT (hc : X.calm = true) : CallR X (.builtin "sorted") I_sortDT := by
  intro pins s σ H xs us Q I r h
  obtain ⟨a, kvs, sts, rfl, ha, ek, hm, hn, q⟩ := h
  obtain ⟨u, rfl, rx⟩ := vals1 r
  cases rx
  obtain ⟨z, y, ts, rel, o, es, ep, h1, h2, h3, h4, h5⟩ := (show ObjOk X.prog X.w H s.heap a (.dT kvs) from rd_of I.hok ha)
  have e1 : es.size = ts.length := by have := congrArg List.length h4; simpa using this
  have e2 := Paired.length rel
  have pb := keys_tup rel ek
  refine sorted_big (κ := tuples' (Value.type "int" != Value.type "tuple")) I pb (by rw [List.length_map]; omega) (fun R hR => ?_) (fun its h' tk rv I' h2 E' Q' hq => kind_tup I' rv pb hn h2 hq) (fun h' tk I' x y b c u v fx fy rx ry C hC => lt_tup I' fx fy rx ry hC) q
  refine PySem.W.kdu_collect (A := X.A.in1) (src_es (P := X.prog) (w := X.w) y h2 h3) (I.ok.hd hc) h1 (by rw [sizeLine_eq]; omega) fun h' tk acc hk hacc => ?_
  have e3 : acc.toList = ts.map fun q => Value.ref q.2.1 := by
    refine List.ext_getElem? fun i => ?_
    by_cases hi : i < ts.length
    · have ha : i < acc.size := by have := hacc.1; omega
      obtain ⟨hj, e⟩ := hacc.2 i acc[i] (by simp [ha])
      have e4 : es.toList[i]? = some (entryOfKey (tupleKind (mixKind X.prog X.w)) ts[i]) := by rw [h4]; simp [hi]
      have e5 : es[i] = entryOfKey (tupleKind (mixKind X.prog X.w)) ts[i] := by
        obtain ⟨_, e6⟩ := List.getElem?_eq_some_iff.mp e4
        simpa using e6
      simp only [Array.getElem?_toList, List.getElem?_map]
      rw [Array.getElem?_eq_getElem ha, e, e5, List.getElem?_eq_getElem hi]
      rfl
    · have ha : acc.size ≤ i := by have := hacc.1; omega
      rw [List.getElem?_eq_none (by simpa using ha), List.getElem?_eq_none (by simpa using hi)]
  refine hR acc.toList h' tk ?_ hk
  rw [e3]
  exact vals_refs ts
end
end L2

namespace J
/-! moves and states, by plain lists -/
inductive Mv where
  | pour (a b : Nat) | fill (a : Nat) | emp (a : Nat)
  deriving DecidableEq
def at0 (l : List Int) (i : Nat) : Int := l.getD i 0
def much (sz st : List Int) (a b : Nat) : Int := if at0 sz b - at0 st b < at0 st a then at0 sz b - at0 st b else at0 st a
def behind (sz st : List Int) : Mv → List Int
  | .pour a b => (st.set a (at0 st a - much sz st a b)).set b (at0 st b + much sz st a b)
  | .fill a => st.set a (at0 sz a)
  | .emp a => st.set a 0
def pours (n : Nat) : List Mv := (List.range n).flatMap fun a => ((List.range n).filter fun b => b != a).map fun b => Mv.pour a b
def moves (n : Nat) (tap : Bool) : List Mv := pours n ++ if tap = true then (List.range n).map Mv.fill ++ (List.range n).map Mv.emp else []
/-- a move of a house with n jugs -/
def Mv.ok (n : Nat) (tap : Bool) : Mv → Prop
  | .pour a b => a < n ∧ b < n ∧ a ≠ b
  | .fill a => a < n ∧ tap = true
  | .emp a => a < n ∧ tap = true
theorem mem_moves {n : Nat} {tap : Bool} {m : Mv} : m ∈ moves n tap ↔ m.ok n tap := by
  unfold moves pours
  cases tap <;> cases m <;> simp [Mv.ok] <;> (try omega)
  all_goals
    constructor
    · rintro ⟨h1, h2, h3⟩; exact ⟨h1, h2, fun e => h3 e.symm⟩
    · rintro ⟨h1, h2, h3⟩; exact ⟨h1, h2, fun e => h3 e.symm⟩
structure IsSt (sz st : List Int) : Prop where
  len : st.length = sz.length
  bnd : ∀ i, i < sz.length → 0 ≤ at0 st i ∧ at0 st i ≤ at0 sz i
theorem at0_set (l : List Int) (a i : Nat) (v : Int) : at0 (l.set a v) i = if a = i ∧ i < l.length then v else at0 l i := by
  unfold at0
  simp only [List.getD_eq_getElem?_getD, List.getElem?_set]
  by_cases h : a = i
  · subst h
    by_cases hl : a < l.length
    · simp [hl]
    · simp [hl]
  · simp [h]
theorem IsSt.behind {sz st : List Int} {tap : Bool} {m : Mv} (hs : ∀ i, i < sz.length → 0 ≤ at0 sz i) (h : IsSt sz st) (hm : m.ok sz.length tap) : IsSt sz (behind sz st m) := by
  have hl := h.len
  cases m with
  | pour a b =>
    obtain ⟨ha, hb, hab⟩ := hm
    have h1 := h.bnd a ha
    have h2 := h.bnd b hb
    refine ⟨by simp [J.behind, hl], fun i hi => ?_⟩
    have h3 := h.bnd i hi
    simp only [J.behind, at0_set, List.length_set, hl]
    unfold much
    by_cases e1 : b = i
    · subst e1; simp only [hi, and_self, if_true]; split <;> omega
    · simp only [e1, false_and, if_false]
      by_cases e2 : a = i
      · subst e2; simp only [hi, and_self, if_true]; split <;> omega
      · simp only [e2, false_and, if_false]; exact h3
  | fill a =>
    refine ⟨by simp [J.behind, hl], fun i hi => ?_⟩
    have h3 := h.bnd i hi
    have h4 := hs i hi
    simp only [J.behind, at0_set, hl]
    by_cases e2 : a = i
    · subst e2; simp only [hi, and_self, if_true]; omega
    · simp only [e2, false_and, if_false]; exact h3
  | emp a =>
    refine ⟨by simp [J.behind, hl], fun i hi => ?_⟩
    have h3 := h.bnd i hi
    have h4 := hs i hi
    simp only [J.behind, at0_set, hl]
    by_cases e2 : a = i
    · subst e2; simp only [hi, and_self, if_true]; omega
    · simp only [e2, false_and, if_false]; exact h3
/-! all states -/
def more (told : List (List Int)) (size : Int) : List (List Int) := told.flatMap fun st => (List.range (size + 1).toNat).map fun (k : Nat) => st ++ [(k : Int)]
def states (sz : List Int) : List (List Int) := sz.foldl more [[]]
def prod1 (sz : List Int) : Int := sz.foldl (fun m s => m * (s + 1)) 1
theorem mem_fold (sz : List Int) : ∀ (L : List (List Int)) (x : List Int), x ∈ sz.foldl more L ↔ ∃ l ∈ L, ∃ t : List Int, x = l ++ t ∧ IsSt sz t := by
  induction sz with
  | nil =>
    intro L x
    simp only [List.foldl_nil]
    constructor
    · intro h; exact ⟨x, h, [], by simp, ⟨rfl, fun i hi => by simp at hi⟩⟩
    · rintro ⟨l, hl, t, rfl, ht⟩
      have : t = [] := by have := ht.len; simpa using this
      subst this; simpa using hl
  | cons s r ih =>
    intro L x
    rw [List.foldl_cons, ih]
    constructor
    · rintro ⟨l, hl, t, rfl, ht⟩
      unfold more at hl
      simp only [List.mem_flatMap, List.mem_map, List.mem_range] at hl
      obtain ⟨l0, h0, k, hk, rfl⟩ := hl
      refine ⟨l0, h0, (k : Int) :: t, by simp, ⟨by simp [ht.len], fun i hi => ?_⟩⟩
      cases i with
      | zero => simp [at0]; omega
      | succ i => have := ht.bnd i (by simpa using hi); simpa [at0] using this
    · rintro ⟨l, hl, t, rfl, ht⟩
      cases t with
      | nil => have := ht.len; simp at this
      | cons v t =>
        refine ⟨l ++ [v], ?_, t, by simp, ⟨by have := ht.len; simpa using this, fun i hi => ?_⟩⟩
        · unfold more
          simp only [List.mem_flatMap, List.mem_map, List.mem_range]
          have := ht.bnd 0 (by simp)
          simp [at0] at this
          exact ⟨l, hl, v.toNat, by omega, by rw [Int.toNat_of_nonneg this.1]⟩
        · have := ht.bnd (i + 1) (by simpa using hi); simpa [at0] using this
theorem mem_states {sz x : List Int} : x ∈ states sz ↔ IsSt sz x := by
  unfold states
  rw [mem_fold]
  constructor
  · rintro ⟨l, hl, t, rfl, ht⟩
    have : l = [] := by simpa using hl
    subst this; simpa using ht
  · intro h; exact ⟨[], by simp, x, by simp, h⟩
theorem len_more (L : List (List Int)) (s : Int) : (more L s).length = L.length * (s + 1).toNat := by
  unfold more
  induction L with
  | nil => simp
  | cons a L ih => rw [List.flatMap_cons, List.length_append, ih]; simp [Nat.add_mul]; omega
theorem len_fold (sz : List Int) (hs : ∀ s ∈ sz, 0 ≤ s) : ∀ (L : List (List Int)) (p : Int), (L.length : Int) = p → ((sz.foldl more L).length : Int) = sz.foldl (fun m s => m * (s + 1)) p := by
  induction sz with
  | nil => intro L p h; simpa using h
  | cons s r ih =>
    intro L p h
    rw [List.foldl_cons, List.foldl_cons]
    refine ih (fun x hx => hs x (List.mem_cons_of_mem _ hx)) _ _ ?_
    have := hs s List.mem_cons_self
    rw [len_more, Int.natCast_mul, h, Int.toNat_of_nonneg (by omega)]
theorem len_states {sz : List Int} (hs : ∀ s ∈ sz, 0 ≤ s) : ((states sz).length : Int) = prod1 sz := len_fold sz hs _ _ (by simp)
theorem nodup_le {α : Type} [DecidableEq α] : ∀ (xs ys : List α), xs.Nodup → (∀ x ∈ xs, x ∈ ys) → xs.length ≤ ys.length
  | [], ys, _, _ => by simp
  | x :: xs, ys, nd, h => by
    have hx : x ∈ ys := h x List.mem_cons_self
    obtain ⟨hn, nd'⟩ := List.nodup_cons.mp nd
    have := nodup_le xs (ys.erase x) nd' fun z hz => (List.mem_erase_of_ne (show z ≠ x from fun e => hn (e ▸ hz))).mpr (h z (List.mem_cons_of_mem _ hz))
    rw [List.length_erase_of_mem hx] at this
    have : 0 < ys.length := List.length_pos_of_mem hx
    simp only [List.length_cons]; omega
end J

namespace J
/-! the walk from a state: each state found, with the place of the one ahead of it and the move -/
abbrev Way := List Int × Option (Nat × Mv)
def addOne (sz here : List Int) (p : Nat) (w : List Way) (m : Mv) : List Way :=
  if behind sz here m ∈ w.map (·.1) then w else w ++ [(behind sz here m, some (p, m))]
def addAll (sz here : List Int) (p : Nat) (ms : List Mv) (w : List Way) : List Way := ms.foldl (addOne sz here p) w
def run (sz : List Int) (ms : List Mv) (st : List Int) : Nat → List Way
  | 0 => [(st, none)]
  | p + 1 => match (run sz ms st p)[p]? with
    | none => run sz ms st p
    | some x => addAll sz x.1 p ms (run sz ms st p)
def ways (sz : List Int) (ms : List Mv) (st : List Int) : List Way := run sz ms st (states sz).length
theorem snoc_get {α : Type} {W : List α} {e y : α} {i : Nat} : (W ++ [e])[i]? = some y ↔ W[i]? = some y ∨ (i = W.length ∧ y = e) := by
  rw [List.getElem?_append]
  by_cases h : i < W.length
  · rw [if_pos h]
    constructor
    · exact .inl
    · rintro (z | ⟨z, _⟩)
      · exact z
      · omega
  · rw [if_neg h]
    constructor
    · intro z
      obtain ⟨hl, z⟩ := List.getElem?_eq_some_iff.mp z
      simp at hl
      refine .inr ⟨by omega, ?_⟩
      have : i - W.length = 0 := by omega
      simp [this] at z
      exact z.symm
    · rintro (z | ⟨z, rfl⟩)
      · have := (List.getElem?_eq_some_iff.mp z).1; omega
      · subst z; simp
structure WIn (sz : List Int) (ms : List Mv) (st : List Int) (p : Nat) (P : Nat) (done : List Mv) (W : List Way) : Prop where
  hd : W[0]? = some (st, none)
  nd : (W.map (·.1)).Nodup
  sts : ∀ x ∈ W, IsSt sz x.1
  par : ∀ (i : Nat) (x : List Int) (q : Nat) (m : Mv), W[i]? = some (x, some (q, m)) → q < P ∧ q < i ∧ m ∈ ms ∧ ∃ y, W[q]? = some y ∧ x = behind sz y.1 m
  non : ∀ (i : Nat) (x : List Int), W[i]? = some (x, none) → i = 0
  mono : ∀ (i j : Nat) (x y : List Int) (q : Nat) (m : Mv) (q' : Nat) (m' : Mv), i ≤ j → W[i]? = some (x, some (q, m)) → W[j]? = some (y, some (q', m')) → q ≤ q'
  cls : ∀ (i : Nat) (x : Way) (m : Mv), W[i]? = some x → (i < p ∧ m ∈ ms) ∨ (i = p ∧ m ∈ done) → ∃ (j : Nat) (y : Way), W[j]? = some y ∧ y.1 = behind sz x.1 m ∧ (y.2 = none ∨ ∃ q m', y.2 = some (q, m') ∧ q ≤ i)
section
variable {sz st : List Int} {ms done : List Mv} {p P : Nat} {W : List Way} {here : List Int} {m : Mv}
theorem WIn.add (h : WIn sz ms st p (p + 1) done W) (hp : ∃ o, W[p]? = some (here, o)) (hm : m ∈ ms) (hs : IsSt sz (behind sz here m)) : WIn sz ms st p (p + 1) (done ++ [m]) (addOne sz here p W m) := by
  obtain ⟨o, hp⟩ := hp
  have plt : p < W.length := (List.getElem?_eq_some_iff.mp hp).1
  unfold addOne
  by_cases hb : behind sz here m ∈ W.map (·.1)
  · rw [if_pos hb]
    refine ⟨h.hd, h.nd, h.sts, h.par, h.non, h.mono, fun i x m' hx hc => ?_⟩
    rcases hc with ⟨h1, h2⟩ | ⟨h1, h2⟩
    · exact h.cls i x m' hx (.inl ⟨h1, h2⟩)
    · rcases List.mem_append.mp h2 with h3 | h3
      · exact h.cls i x m' hx (.inr ⟨h1, h3⟩)
      · have e : m' = m := by simpa using h3
        subst e; subst h1
        rw [hp] at hx; cases hx
        obtain ⟨y, hy, e⟩ := List.mem_map.mp hb
        obtain ⟨j, hj⟩ := List.mem_iff_getElem?.mp hy
        refine ⟨j, y, hj, e, ?_⟩
        obtain ⟨y1, y2⟩ := y
        cases y2 with
        | none => exact .inl rfl
        | some qm => obtain ⟨q, m''⟩ := qm; exact .inr ⟨q, m'', rfl, by have := (h.par j _ _ _ hj).1; omega⟩
  · rw [if_neg hb]
    refine ⟨?_, ?_, ?_, ?_, ?_, ?_, ?_⟩
    · exact snoc_get.mpr (.inl h.hd)
    · rw [List.map_append, List.nodup_append]
      refine ⟨h.nd, by simp, fun a ha b hb' e => ?_⟩
      have : b = behind sz here m := by simpa using hb'
      subst this; subst e; exact hb ha
    · intro x hx
      rcases List.mem_append.mp hx with z | z
      · exact h.sts x z
      · have : x = (behind sz here m, some (p, m)) := by simpa using z
        subst this; exact hs
    · intro i x q m' hx
      rcases snoc_get.mp hx with z | ⟨z1, z2⟩
      · obtain ⟨a, b, c, y, hy, e⟩ := h.par i x q m' z
        exact ⟨a, b, c, y, snoc_get.mpr (.inl hy), e⟩
      · cases z2
        exact ⟨by omega, by omega, hm, (here, o), snoc_get.mpr (.inl hp), rfl⟩
    · intro i x hx
      rcases snoc_get.mp hx with z | ⟨z1, z2⟩
      · exact h.non i x z
      · cases z2
    · intro i j x y q m1 q' m2 hij hi hj
      rcases snoc_get.mp hi with z | ⟨z1, z2⟩
      · rcases snoc_get.mp hj with u | ⟨u1, u2⟩
        · exact h.mono i j x y q m1 q' m2 hij z u
        · cases u2; have := (h.par i x q m1 z).1; omega
      · cases z2
        rcases snoc_get.mp hj with u | ⟨u1, u2⟩
        · have := (List.getElem?_eq_some_iff.mp u).1; omega
        · cases u2; omega
    · intro i x m' hx hc
      rcases snoc_get.mp hx with z | ⟨z1, z2⟩
      · have old : ((i < p ∧ m' ∈ ms) ∨ (i = p ∧ m' ∈ done)) → ∃ (j : Nat) (y : Way), (W ++ [(behind sz here m, some (p, m))])[j]? = some y ∧ y.1 = behind sz x.1 m' ∧ (y.2 = none ∨ ∃ q m', y.2 = some (q, m') ∧ q ≤ i) := fun hc => by
          obtain ⟨j, y, a, b, c⟩ := h.cls i x m' z hc
          exact ⟨j, y, snoc_get.mpr (.inl a), b, c⟩
        rcases hc with hc | ⟨h1, h2⟩
        · exact old (.inl hc)
        · rcases List.mem_append.mp h2 with h3 | h3
          · exact old (.inr ⟨h1, h3⟩)
          · have e : m' = m := by simpa using h3
            subst e; subst h1
            rw [hp] at z; cases z
            exact ⟨W.length, _, snoc_get.mpr (.inr ⟨rfl, rfl⟩), rfl, .inr ⟨i, m', rfl, Nat.le_refl _⟩⟩
      · rcases hc with ⟨h1, h2⟩ | ⟨h1, h2⟩ <;> omega
theorem addOne_pre {here : List Int} {p : Nat} {m : Mv} {W : List Way} {i : Nat} {y : Way} (h : W[i]? = some y) : (addOne sz here p W m)[i]? = some y := by
  unfold addOne
  split
  · exact h
  · exact snoc_get.mpr (.inl h)
theorem WIn.all : ∀ (todo : List Mv) {done : List Mv} {W : List Way}, WIn sz ms st p (p + 1) done W → (∃ o, W[p]? = some (here, o)) → (∀ m ∈ todo, m ∈ ms) → (∀ m ∈ todo, IsSt sz (behind sz here m)) →
    WIn sz ms st p (p + 1) (done ++ todo) (addAll sz here p todo W)
  | [], done, W, h, _, _, _ => by simpa [addAll] using h
  | m :: todo, done, W, h, hp, hm, hs => by
    have h1 := h.add hp (hm m List.mem_cons_self) (hs m List.mem_cons_self)
    obtain ⟨o, hp⟩ := hp
    have h2 := WIn.all todo h1 ⟨o, addOne_pre hp⟩ (fun x hx => hm x (List.mem_cons_of_mem _ hx)) (fun x hx => hs x (List.mem_cons_of_mem _ hx))
    simpa [addAll, List.append_assoc] using h2
/-- between two places -/
theorem WIn.next (h : WIn sz ms st p (p + 1) ms W) : WIn sz ms st (p + 1) (p + 1) [] W :=
  ⟨h.hd, h.nd, h.sts, h.par, h.non, h.mono, fun i x m hx hc => h.cls i x m hx (by
    rcases hc with ⟨h1, h2⟩ | ⟨_, h2⟩
    · by_cases e : i = p
      · exact .inr ⟨e, h2⟩
      · exact .inl ⟨by omega, h2⟩
    · simp at h2)⟩
theorem WIn.open (h : WIn sz ms st p p [] W) : WIn sz ms st p (p + 1) [] W :=
  ⟨h.hd, h.nd, h.sts, fun i x q m e => let ⟨a, b⟩ := h.par i x q m e; ⟨by omega, b⟩, h.non, h.mono, h.cls⟩
theorem WIn.beyond (h : WIn sz ms st p p [] W) (hl : W.length ≤ p) : WIn sz ms st (p + 1) (p + 1) [] W :=
  ⟨h.hd, h.nd, h.sts, fun i x q m e => let ⟨a, b⟩ := h.par i x q m e; ⟨by omega, b⟩, h.non, h.mono, fun i x m hx hc => by
    have := (List.getElem?_eq_some_iff.mp hx).1
    rcases hc with ⟨_, h2⟩ | ⟨_, h2⟩
    · exact h.cls i x m hx (.inl ⟨by omega, h2⟩)
    · simp at h2⟩
/-- what a walk wants of sizes and moves -/
structure Good (sz : List Int) (ms : List Mv) : Prop where
  keep : ∀ st m, IsSt sz st → m ∈ ms → IsSt sz (behind sz st m)
theorem run_inv (g : Good sz ms) (hst : IsSt sz st) : ∀ p, WIn sz ms st p p [] (run sz ms st p)
  | 0 => by
    unfold run
    refine ⟨rfl, by simp, fun x hx => ?_, fun i x q m e => ?_, fun i x e => ?_, fun i j x y q m q' m' _ e _ => ?_, fun i x m _ hc => ?_⟩
    · have : x = (st, none) := by simpa using hx
      subst this; exact hst
    · cases i with
      | zero => simp at e
      | succ i => simp at e
    · cases i with
      | zero => rfl
      | succ i => simp at e
    · cases i with
      | zero => simp at e
      | succ i => simp at e
    · rcases hc with ⟨h1, _⟩ | ⟨_, h2⟩
      · omega
      · simp at h2
  | p + 1 => by
    have h := run_inv g hst p
    unfold run
    cases e : (run sz ms st p)[p]? with
    | none => exact h.beyond (List.getElem?_eq_none_iff.mp e)
    | some x =>
      have hx : IsSt sz x.1 := h.sts x (List.mem_iff_getElem?.mpr ⟨p, e⟩)
      have := h.open.all (here := x.1) ms ⟨x.2, e⟩ (fun _ q => q) (fun m q => g.keep x.1 m hx q)
      exact WIn.next (by simpa using this)
theorem run_le (g : Good sz ms) (hst : IsSt sz st) (p : Nat) : (run sz ms st p).length ≤ (states sz).length := by
  have h := run_inv g hst p
  have := nodup_le _ (states sz) h.nd fun x hx => by
    obtain ⟨y, hy, rfl⟩ := List.mem_map.mp hx
    exact mem_states.mpr (h.sts y hy)
  simpa using this
theorem run_stay {p : Nat} (h : (run sz ms st p).length ≤ p) : ∀ k, run sz ms st (p + k) = run sz ms st p
  | 0 => rfl
  | k + 1 => by
    have ih := run_stay h k
    show run sz ms st ((p + k) + 1) = _
    rw [run, ih, List.getElem?_eq_none_iff.mpr (by omega)]
/-- where the walk stops it is the whole walk -/
theorem run_end (g : Good sz ms) (hst : IsSt sz st) {p : Nat} (h : (run sz ms st p).length ≤ p) : run sz ms st p = ways sz ms st := by
  unfold ways
  by_cases e : p ≤ (states sz).length
  · have := run_stay h ((states sz).length - p)
    rw [← this]; congr 1; omega
  · have := run_stay (p := (states sz).length) (run_le g hst _) (p - (states sz).length)
    rw [← this]; congr 1; omega
theorem run_step {p : Nat} {x : Way} (e : (run sz ms st p)[p]? = some x) : run sz ms st (p + 1) = addAll sz x.1 p ms (run sz ms st p) := by
  rw [run, e]
theorem ways_inv (g : Good sz ms) (hst : IsSt sz st) : WIn sz ms st (ways sz ms st).length (states sz).length [] (ways sz ms st) := by
  have h := run_inv g hst (states sz).length
  exact ⟨h.hd, h.nd, h.sts, h.par, h.non, h.mono, fun i x m hx hc => h.cls i x m hx (by
    rcases hc with ⟨h1, h2⟩ | ⟨_, h2⟩
    · exact .inl ⟨Nat.lt_of_lt_of_le h1 (run_le g hst _), h2⟩
    · simp at h2)⟩
end
theorem good_moves {sz : List Int} {tap : Bool} (hs : ∀ i, i < sz.length → 0 ≤ at0 sz i) : Good sz (moves sz.length tap) :=
  ⟨fun _ _ h hm => h.behind hs (mem_moves.mp hm)⟩
end J

namespace J
/-! heights along a walk, and the way back -/
section
variable {sz st : List Int} {ms done : List Mv} {p P : Nat} {W : List Way}
end
end J

namespace Jug
open PySem L2
def top (i : Nat) : Stmt := PySem.Challenge.pw_jughouse_k02_reached.main.body.getD i (.Pass ⟨0, 0, 0, 0⟩)
abbrev s_is_number : Stmt := top 9
theorem sc_is_number : FnScope ["value", "least", "most"] ["value", "least", "most"] (defScope s_is_number) := ⟨rfl, rfl, rfl, by decide +kernel, rfl, by decide +kernel, by decide +kernel⟩
abbrev s_is_jug : Stmt := top 10
theorem sc_is_jug : FnScope ["value"] ["value"] (defScope s_is_jug) := ⟨rfl, rfl, rfl, by decide +kernel, rfl, by decide +kernel, by decide +kernel⟩
abbrev s_held_in : Stmt := top 11
theorem sc_held_in : FnScope ["house", "state", "held", "sizes", "many", "size"] ["house", "state"] (defScope s_held_in) := ⟨rfl, rfl, rfl, by decide +kernel, rfl, by decide +kernel, by decide +kernel⟩
abbrev s_ways_from : Stmt := top 13
theorem sc_ways_from : FnScope ["house", "state", "start", "moves", "ways", "row", "place", "here", "move", "behind"] ["house", "state"] (defScope s_ways_from) := ⟨rfl, rfl, rfl, by decide +kernel, rfl, by decide +kernel, by decide +kernel⟩
abbrev s_reached : Stmt := top 14
theorem sc_reached : FnScope ["house", "state"] ["house", "state"] (defScope s_reached) := ⟨rfl, rfl, rfl, by decide +kernel, rfl, by decide +kernel, by decide +kernel⟩
abbrev s_measured : Stmt := top 15
theorem sc_measured : FnScope ["house", "state", "amounts", "held", "many"] ["house", "state"] (defScope s_measured) := ⟨rfl, rfl, rfl, by decide +kernel, rfl, by decide +kernel, by decide +kernel⟩
abbrev s_tied : Stmt := top 16
theorem sc_tied : FnScope ["house", "one", "other", "ahead", "behind"] ["house", "one", "other"] (defScope s_tied) := ⟨rfl, rfl, rfl, by decide +kernel, rfl, by decide +kernel, by decide +kernel⟩
abbrev s_check_jug : Stmt := top 18
theorem sc_check_jug : FnScope ["jug"] ["jug"] (defScope s_check_jug) := ⟨rfl, rfl, rfl, by decide +kernel, rfl, by decide +kernel, by decide +kernel⟩
abbrev s_check_house_has : Stmt := top 19
theorem sc_check_house_has : FnScope ["house", "jug"] ["house", "jug"] (defScope s_check_house_has) := ⟨rfl, rfl, rfl, by decide +kernel, rfl, by decide +kernel, by decide +kernel⟩
abbrev s_check_house_can_tap : Stmt := top 20
theorem sc_check_house_can_tap : FnScope ["house", "jug"] ["house", "jug"] (defScope s_check_house_can_tap) := ⟨rfl, rfl, rfl, by decide +kernel, rfl, by decide +kernel, by decide +kernel⟩
abbrev s_with_amount : Stmt := top 21
theorem sc_with_amount : FnScope ["held", "jug", "many", "behind"] ["held", "jug", "many"] (defScope s_with_amount) := ⟨rfl, rfl, rfl, by decide +kernel, rfl, by decide +kernel, by decide +kernel⟩
abbrev s_Move_done : Stmt := inClass (top 22) 0
theorem sc_Move_done : FnScope ["self", "house", "state", "held"] ["self", "house", "state"] (defScope s_Move_done) := ⟨rfl, rfl, rfl, by decide +kernel, rfl, by decide +kernel, by decide +kernel⟩
abbrev s_Move_held_behind : Stmt := inClass (top 22) 1
theorem sc_Move_held_behind : FnScope ["self", "house", "held"] ["self", "house", "held"] (defScope s_Move_held_behind) := ⟨rfl, rfl, rfl, by decide +kernel, rfl, by decide +kernel, by decide +kernel⟩
abbrev s_Pour_init : Stmt := inClass (top 23) 0
theorem sc_Pour_init : FnScope ["self", "one", "other"] ["self", "one", "other"] (defScope s_Pour_init) := ⟨rfl, rfl, rfl, by decide +kernel, rfl, by decide +kernel, by decide +kernel⟩
abbrev s_Pour_held_behind : Stmt := inClass (top 23) 1
theorem sc_Pour_held_behind : FnScope ["self", "house", "held", "room", "many", "less"] ["self", "house", "held"] (defScope s_Pour_held_behind) := ⟨rfl, rfl, rfl, by decide +kernel, rfl, by decide +kernel, by decide +kernel⟩
abbrev s_Fill_init : Stmt := inClass (top 24) 0
theorem sc_Fill_init : FnScope ["self", "jug"] ["self", "jug"] (defScope s_Fill_init) := ⟨rfl, rfl, rfl, by decide +kernel, rfl, by decide +kernel, by decide +kernel⟩
abbrev s_Fill_held_behind : Stmt := inClass (top 24) 1
theorem sc_Fill_held_behind : FnScope ["self", "house", "held"] ["self", "house", "held"] (defScope s_Fill_held_behind) := ⟨rfl, rfl, rfl, by decide +kernel, rfl, by decide +kernel, by decide +kernel⟩
abbrev s_Empty_init : Stmt := inClass (top 25) 0
theorem sc_Empty_init : FnScope ["self", "jug"] ["self", "jug"] (defScope s_Empty_init) := ⟨rfl, rfl, rfl, by decide +kernel, rfl, by decide +kernel, by decide +kernel⟩
abbrev s_Empty_held_behind : Stmt := inClass (top 25) 1
theorem sc_Empty_held_behind : FnScope ["self", "house", "held"] ["self", "house", "held"] (defScope s_Empty_held_behind) := ⟨rfl, rfl, rfl, by decide +kernel, rfl, by decide +kernel, by decide +kernel⟩
abbrev s_sizes_in : Stmt := top 28
theorem sc_sizes_in : FnScope ["sizes", "told", "size"] ["sizes"] (defScope s_sizes_in) := ⟨rfl, rfl, rfl, by decide +kernel, rfl, by decide +kernel, by decide +kernel⟩
abbrev s_count_states : Stmt := top 29
theorem sc_count_states : FnScope ["sizes", "many", "size"] ["sizes"] (defScope s_count_states) := ⟨rfl, rfl, rfl, by decide +kernel, rfl, by decide +kernel, by decide +kernel⟩
abbrev s_pours_among : Stmt := top 30
theorem sc_pours_among : FnScope ["many", "pours", "one", "other"] ["many"] (defScope s_pours_among) := ⟨rfl, rfl, rfl, by decide +kernel, rfl, by decide +kernel, by decide +kernel⟩
abbrev s_House_init : Stmt := inClass (top 31) 0
theorem sc_House_init : FnScope ["self", "sizes", "tap"] ["self", "sizes", "tap"] (defScope s_House_init) := ⟨rfl, rfl, rfl, by decide +kernel, rfl, by decide +kernel, by decide +kernel⟩
abbrev s_House_sizes : Stmt := inClass (top 31) 1
theorem sc_House_sizes : FnScope ["self"] ["self"] (defScope s_House_sizes) := ⟨rfl, rfl, rfl, by decide +kernel, rfl, by decide +kernel, by decide +kernel⟩
abbrev s_House_moves : Stmt := inClass (top 31) 2
theorem sc_House_moves : FnScope ["self", "many", "told"] ["self"] (defScope s_House_moves) := ⟨rfl, rfl, rfl, by decide +kernel, rfl, by decide +kernel, by decide +kernel⟩
abbrev s__law_cell_at : Stmt := top 33
theorem sc__law_cell_at : FnScope ["_law_script", "_law_k"] ["_law_script", "_law_k"] (defScope s__law_cell_at) := ⟨rfl, rfl, rfl, by decide +kernel, rfl, by decide +kernel, by decide +kernel⟩
abbrev s__law_draw : Stmt := top 34
theorem sc__law_draw : FnScope ["_law_cell", "_law_k", "_law_many", "_law_primes"] ["_law_cell", "_law_k", "_law_many"] (defScope s__law_draw) := ⟨rfl, rfl, rfl, by decide +kernel, rfl, by decide +kernel, by decide +kernel⟩
abbrev s__law_sizes : Stmt := top 35
theorem sc__law_sizes : FnScope ["_law_cell", "_law_many", "_law_most"] ["_law_cell"] (defScope s__law_sizes) := ⟨rfl, rfl, rfl, by decide +kernel, rfl, by decide +kernel, by decide +kernel⟩
abbrev s__law_state : Stmt := top 36
theorem sc__law_state : FnScope ["_law_cell", "_law_sizes_here", "_law_state_here", "_law_k", "_law_kind"] ["_law_cell", "_law_sizes_here"] (defScope s__law_state) := ⟨rfl, rfl, rfl, by decide +kernel, rfl, by decide +kernel, by decide +kernel⟩
abbrev s__law_all_moves : Stmt := top 37
theorem sc__law_all_moves : FnScope ["_law_sizes_here", "_law_tap", "_law_jugs", "_law_found", "_law_one"] ["_law_sizes_here", "_law_tap"] (defScope s__law_all_moves) := ⟨rfl, rfl, rfl, by decide +kernel, rfl, by decide +kernel, by decide +kernel⟩
abbrev s__law_behind : Stmt := top 38
theorem sc__law_behind : FnScope ["_law_sizes_here", "_law_state_here", "_law_told", "_law_sort", "_law_one", "_law_other", "_law_made", "_law_much"] ["_law_sizes_here", "_law_state_here", "_law_told"] (defScope s__law_behind) := ⟨rfl, rfl, rfl, by decide +kernel, rfl, by decide +kernel, by decide +kernel⟩
abbrev s__law_reached : Stmt := top 39
theorem sc__law_reached : FnScope ["_law_sizes_here", "_law_tap", "_law_state_here", "_law_found", "_law_met", "_law_at", "_law_told", "_law_there"] ["_law_sizes_here", "_law_tap", "_law_state_here"] (defScope s__law_reached) := ⟨rfl, rfl, rfl, by decide +kernel, rfl, by decide +kernel, by decide +kernel⟩
abbrev s_law : Stmt := top 40
theorem sc_law : FnScope ["_law_script", "_law_sizes_here", "_law_tap", "_law_house", "_law_state_here", "_law_due", "_law_amounts", "_law_there", "_law_many", "_law_again", "_law_found", "_law_told", "_law_other", "_law_back"] ["_law_script"] (defScope s_law) := ⟨rfl, rfl, rfl, by decide +kernel, rfl, by decide +kernel, by decide +kernel⟩

end Jug
namespace Jug
open PySem L2
/-! ### what the walk asks of the module: the built-in names, the constants -/
structure Bt (mg : Str → Option Value) : Prop where
  isinstance : mg "isinstance" = none
  int : mg "int" = none
  bool : mg "bool" = none
  tuple : mg "tuple" = none
  list : mg "list" = none
  len : mg "len" = none
  zip : mg "zip" = none
  range : mg "range" = none
  min : mg "min" = none
  str : mg "str" = none
  jugs : ∃ t, mg "MOST_JUGS" = some (.int 4 t)
  size : ∃ t, mg "MOST_SIZE" = some (.int 60 t)
theorem bt_isinstance : bootBuiltins "isinstance" = some (.builtin "isinstance") := by decide +kernel
theorem bt_int : bootBuiltins "int" = some (.type "int") := by decide +kernel
theorem bt_bool : bootBuiltins "bool" = some (.type "bool") := by decide +kernel
theorem bt_tuple : bootBuiltins "tuple" = some (.type "tuple") := by decide +kernel
theorem bt_list : bootBuiltins "list" = some (.type "list") := by decide +kernel
theorem bt_min : bootBuiltins "min" = some (.builtin "min") := by decide +kernel
section
variable {P : Program} {w : World} {K : PySem.W.Frag} {mg : Str → Option Value} {base : Heap}
theorem kit_ii : PySem.W.kitOne K (.type "int") (.type "int") = some true := by
  unfold PySem.W.kitOne
  rw [if_pos (by simp)]
theorem kit_ib : PySem.W.kitOne K (.type "int") (.type "bool") = some false := by
  unfold PySem.W.kitOne
  rw [if_neg (by decide)]
  with_unfolding_all rfl
theorem kit_tt : PySem.W.kitOne K (.type "tuple") (.type "tuple") = some true := by
  unfold PySem.W.kitOne
  rw [if_pos (by simp)]
theorem kit_ll : PySem.W.kitOne K (.type "list") (.type "list") = some true := by
  unfold PySem.W.kitOne
  rw [if_pos (by simp)]
theorem kit_bb : PySem.W.kitOne K (.type "bool") (.type "bool") = some true := by
  unfold PySem.W.kitOne
  rw [if_pos (by simp)]
def sp_is_number : Sp := fun vs H Q _ => ∃ i lo hi : Int, vs = [.int i, .int lo, .int hi] ∧ Q (.bl (decide (lo ≤ i) && decide (i ≤ hi))) H
theorem ok_is_number {f : Addr} {fd : FuncData} (F : Fun K "is_number" "is_number" s_is_number f fd) (B : Bt mg) : FnOk P w K mg base CX0 1 f fd ["value", "least", "most"] sp_is_number := by
  refine F.ok sc_is_number (fun vs H Q E h => ?_) (fun cdv A outer s H vs Q E hr h => ?_)
  · obtain ⟨i, lo, hi, rfl, _⟩ := h
    rfl
  · obtain ⟨i, lo, hi, rfl, k⟩ := h
    refine ⟨_, pss_one (ps_ret (pe_and (pe_callB call_isinst (by rfl) B.isinstance bt_isinstance (pa_cons (pv 0) (pa_cons (pe_bltn (v := .ty "int") (by rfl) B.int bt_int rfl) pa_nil)))
      (pe_and (pe_not (pe_callB call_isinst (by rfl) B.isinstance bt_isinstance (pa_cons (pv 0) (pa_cons (pe_bltn (v := .ty "bool") (by rfl) B.bool bt_bool rfl) pa_nil))))
      (pe_one (pe_chain op_le op_le (pv 1) (pv 0) (pv 2)))))), ?_⟩
    refine ⟨_, rfl, _, _, _, _, _, rfl, .ty "int", .int i, kit_ii, _, rfl, iteT ?_⟩
    refine ⟨_, rfl, _, _, _, _, _, rfl, .ty "bool", .int i, kit_ib, _, rfl, _, rfl, iteT ?_⟩
    refine ⟨_, rfl, _, rfl, _, _, rfl, rfl, _, rfl, ?_⟩
    by_cases h1 : lo ≤ i
    · rw [decide_eq_true h1]
      refine iteT ⟨_, rfl, _, _, rfl, rfl, ?_⟩
      rw [decide_eq_true h1, Bool.true_and] at k
      exact k
    · rw [decide_eq_false h1]
      refine iteF ?_
      rw [decide_eq_false h1, Bool.false_and] at k
      exact k
def sp_is_jug : Sp := fun vs H Q _ => ∃ i : Int, vs = [.int i] ∧ Q (.bl (decide (0 ≤ i) && decide (i ≤ 3))) H
theorem ok_is_jug {f : Addr} {fd : FuncData} (F : Fun K "is_jug" "is_jug" s_is_jug f fd) (B : Bt mg) (N : FnB P w K mg base 1 "is_number" ["value", "least", "most"] sp_is_number) : FnOk P w K mg base CX0 2 f fd ["value"] sp_is_jug := by
  obtain ⟨t4, e4⟩ := B.jugs
  refine F.ok sc_is_jug (fun vs H Q E h => ?_) (fun cdv A outer s H vs Q E hr h => ?_)
  · obtain ⟨i, rfl, _⟩ := h
    rfl
  · obtain ⟨i, rfl, k⟩ := h
    refine ⟨_, pss_one (ps_ret (pe_fn N hr (pa_cons (pv 0) (pa_cons pe_int (pa_cons (pe_op op_sub (pe_glob (v := .int 4) (by rfl) e4 ⟨_, rfl⟩) pe_int) pa_nil))))), ?_⟩
    exact ⟨_, rfl, _, _, rfl, rfl, i, 0, 3, rfl, k⟩
end
/-! ### data -/
theorem mem_ints {l : List Int} {i : Nat} {x : V} (h : (l.map V.int)[i]? = some x) : ∃ z, l[i]? = some z ∧ x = .int z := by
  rw [List.getElem?_map] at h
  cases e : l[i]? with
  | none => rw [e] at h; cases h
  | some z => rw [e] at h; exact ⟨z, rfl, (Option.some.inj h).symm⟩
theorem at0_of {l : List Int} {i : Nat} {z : Int} (h : l[i]? = some z) : J.at0 l i = z := by
  unfold J.at0
  rw [List.getD_eq_getElem?_getD, h]; rfl
theorem get_of {l : List Int} {i : Nat} (h : i < l.length) : l[i]? = some (J.at0 l i) := by
  unfold J.at0
  rw [List.getD_eq_getElem?_getD, List.getElem?_eq_getElem h]; rfl
theorem getV_of {l : List Int} {i : Nat} (h : i < l.length) : (l.map V.int)[i]? = some (.int (J.at0 l i)) := by
  rw [List.getElem?_map, get_of h]; rfl
theorem st_at {sz st : List Int} {i : Nat} {z y : Int} (h : J.IsSt sz st) (h1 : st[i]? = some z) (h2 : sz[i]? = some y) : 0 ≤ z ∧ z ≤ y := by
  have := h.bnd i (List.getElem?_eq_some_iff.mp h2).1
  rw [at0_of h1, at0_of h2] at this
  exact this
/-- a house: sizes and tap -/
def hF (t : Addr) (tap : Bool) : List (Str × V) := putF "tap" (.bl tap) (putF "jug_sizes" (.ref t) [])
theorem n_tap_js : ¬ (("tap" : Str) = "jug_sizes") := by decide +kernel
theorem hF_js (t : Addr) (tap : Bool) : (hF t tap).lookup ("jug_sizes" : Str) = some (.ref t) := by
  unfold hF
  rw [lookup_putF, if_neg (fun e => n_tap_js e.symm), lookup_putF, if_pos rfl]
theorem hF_tap (t : Addr) (tap : Bool) : (hF t tap).lookup ("tap" : Str) = some (.bl tap) := by
  unfold hF
  rw [lookup_putF, if_pos rfl]
theorem hF_no (t : Addr) (tap : Bool) {m : Str} (h1 : ¬ m = "tap") (h2 : ¬ m = "jug_sizes") : (hF t tap).lookup m = none := by
  unfold hF
  rw [lookup_putF, if_neg h1, lookup_putF, if_neg h2]
  rfl
def House (CH : Addr) (H : Hp) (p : Addr) (sz : List Int) (tap : Bool) : Prop := ∃ dx t, H p = some (.ins CH dx (hF t tap)) ∧ H t = some (.tup (sz.map V.int))
theorem House.mono {CH : Addr} {H H' : Hp} {p : Addr} {sz : List Int} {tap : Bool} (h : House CH H p sz tap) (s : Same H H') : House CH H' p sz tap := by
  obtain ⟨dx, t, h1, h2⟩ := h
  exact ⟨dx, t, s _ _ h1, s _ _ h2⟩
/-- what the class House must have -/
structure CHs (K : PySem.W.Frag) (C : Addr) : Prop where
  cl : Cls K C
  js : NoAttr K C "jug_sizes"
  tap : NoAttr K C "tap"
section
variable {P : Program} {w : World} {K : PySem.W.Frag} {mg : Str → Option Value} {base : Heap} {CH : Addr}
def sp_sizes (CH : Addr) : Sp := fun vs H Q _ => ∃ p sz tap, vs = [.ref p] ∧ House CH H p sz tap ∧ ∀ l, H l = none → Q (.ref l) (upd H l (.lst (sz.map V.int)))
theorem ok_sizes {f : Addr} {fd : FuncData} (F : Fun K "sizes" "House.sizes" s_House_sizes f fd) (B : Bt mg) (C : CHs K CH) : FnOk P w K mg base CX0 1 f fd ["self"] (sp_sizes CH) := by
  refine F.ok sc_House_sizes (fun vs H Q E h => ?_) (fun cdv A outer s H vs Q E hr h => ?_)
  · obtain ⟨p, sz, tap, rfl, _⟩ := h
    rfl
  · obtain ⟨p, sz, tap, rfl, ⟨dx, t, hp, ht⟩, k⟩ := h
    refine ⟨_, pss_one (ps_ret (pe_callTy call_list_of (by rfl) B.list bt_list (pa_cons (pe_fld (pv 0) rfl) pa_nil))), ?_⟩
    exact ⟨_, rfl, p, CH, dx, _, _, rfl, hp, C.cl, C.js, hF_js _ _, t, _, rfl, .inr (SqT.of ht), fun l hl => k l hl⟩
def sp_held_in (CH : Addr) : Sp := fun vs H Q _ => ∃ p sz tap a st, vs = [.ref p, .ref a] ∧ House CH H p sz tap ∧ H a = some (.tup (st.map V.int)) ∧ J.IsSt sz st ∧
  ∀ l H', Same H H' → H l = none → H' l = some (.lst (st.map V.int)) → Q (.ref l) H'
theorem ok_held_in {f : Addr} {fd : FuncData} (F : Fun K "held_in" "held_in" s_held_in f fd) (B : Bt mg) (N : FnB P w K mg base 1 "is_number" ["value", "least", "most"] sp_is_number)
    (S : MeB P w K mg base 1 CH "sizes" ["self"] (sp_sizes CH)) : FnOk P w K mg base CX0 2 f fd ["house", "state"] (sp_held_in CH) := by
  refine F.ok sc_held_in (fun vs H Q E h => ?_) (fun cdv A outer s H vs Q E hr h => ?_)
  · obtain ⟨p, sz, tap, a, st, rfl, _⟩ := h
    rfl
  · obtain ⟨p, sz, tap, a, st, rfl, hh, ha, hst, k⟩ := h
    refine ⟨_, pss_cons (ps_if (pt_not (pt_val (pe_callB call_isinst (by rfl) B.isinstance bt_isinstance (pa_cons (pv 1) (pa_cons (pe_bltn (v := .ty "tuple") (by rfl) B.tuple bt_tuple rfl) pa_nil))))) pss_never pss_nil)
      (pss_cons (ps_set (i := 2) sc_held_in.nd rfl (Or.inl rfl) (pe_callTy call_list_of (by rfl) B.list bt_list (pa_cons (pv 1) pa_nil)))
      (pss_cons (ps_set (i := 3) sc_held_in.nd rfl (Or.inl rfl) (pe_me0 S (pv 0) hr))
      (pss_cons (ps_if (pt_cmpR op_ne (pe_callB call_len_seq (by rfl) B.len PySem.boot_len (pa_cons (pv 2) pa_nil)) (pe_callB call_len_seq (by rfl) B.len PySem.boot_len (pa_cons (pv 3) pa_nil)) (nomark _)) pss_never pss_nil)
      (pss_cons (ps_for PassesOwn.never rfl (pi_zip (by rfl) B.zip (pa_cons (pv 2) (pa_cons (pv 3) pa_nil)))
        (pg_tup rfl (pgs_cons (pg_name (i := 4) sc_held_in.nd rfl (Or.inl rfl)) (pgs_cons (pg_name (i := 5) sc_held_in.nd rfl (Or.inl rfl)) pgs_nil)))
        (pss_one (ps_if (pt_not (pt_val (pe_fn N hr (pa_cons (pv 4) (pa_cons pe_int (pa_cons (pv 5) pa_nil)))))) pss_never pss_nil)))
      (pss_one (ps_ret (pv 2))))))), ?_⟩
    refine ⟨_, rfl, _, _, _, _, _, rfl, .ty "tuple", .tup ha, kit_tt, _, rfl, iteF ?_⟩
    refine ⟨_, rfl, a, _, rfl, .inr (SqT.of ha), fun l hl => ?_⟩
    have s1 : Same H (upd H l (.lst (st.map V.int))) := Same.new hl
    obtain ⟨dx, t, hp, ht⟩ := id hh
    refine ⟨_, rfl, p, dx, _, rfl, s1 _ _ hp, hF_no _ _ (by decide +kernel) (by decide +kernel), p, sz, tap, rfl, hh.mono s1, fun m hm => ?_⟩
    have s2 : Same (upd H l (.lst (st.map V.int))) (upd (upd H l (.lst (st.map V.int))) m (.lst (sz.map V.int))) := Same.new hm
    have e1 := s2 _ _ (upd_same (H := H))
    have hlen : (st.map V.int).length = (sz.map V.int).length := by simp [hst.len]
    refine ⟨_, rfl, l, _, rfl, .inl (SqL.of e1), _, rfl, m, _, rfl, .inl (SqL.of upd_same), rfl, _, rfl, iteNS (by rw [hlen]) ?_⟩
    refine ⟨_, rfl, _, rfl, l, m, _, _, rfl, SqL.of e1, SqL.of upd_same, for_zip (xs := st.map V.int) (ys := sz.map V.int) hlen
      (fun i σ H' => ∃ v4 v5, σ = [some (.ref p), some (.ref a), some (.ref l), some (.ref m), v4, v5] ∧ Same (upd (upd H l (.lst (st.map V.int))) m (.lst (sz.map V.int))) H')
      ⟨none, none, rfl, Same.refl _⟩ (fun i σ H' _ ⟨_, _, _, s3⟩ => ⟨SqL.of (s3 _ _ e1), SqL.of (s3 _ _ upd_same)⟩) ?_ ?_⟩
    · rintro i x y T σ H' hx hy hT ⟨v4, v5, rfl, s3⟩
      obtain ⟨zx, ex, rfl⟩ := mem_ints hx
      obtain ⟨zy, ey, rfl⟩ := mem_ints hy
      have hb := st_at hst ex ey
      refine ⟨T, _, rfl, SqT.of upd_same, rfl, _, _, rfl, _, _, rfl, rfl, ?_⟩
      refine ⟨_, rfl, _, rfl, zx, 0, zy, rfl, _, rfl, ?_⟩
      rw [decide_eq_true hb.1, decide_eq_true hb.2]
      refine iteF ?_
      exact ⟨_, _, rfl, s3.lay hT⟩
    · rintro σ H' ⟨v4, v5, rfl, s3⟩
      exact ⟨_, rfl, k l H' (s1.trans (s2.trans s3)) hl (s3 _ _ e1)⟩
end
end Jug

namespace Jug
open PySem L2
/-! ### moves -/
structure Cz where
  P : Addr
  F : Addr
  E : Addr
def pF (a b : Nat) : List (Str × V) := putF "other" (.int b) (putF "one" (.int a) [])
def jF (a : Nat) : List (Str × V) := putF "jug" (.int a) []
theorem n_one_other : ¬ (("one" : Str) = "other") := by decide +kernel
theorem pF_one (a b : Nat) : (pF a b).lookup ("one" : Str) = some (.int a) := by
  unfold pF
  rw [lookup_putF, if_neg n_one_other, lookup_putF, if_pos rfl]
theorem pF_other (a b : Nat) : (pF a b).lookup ("other" : Str) = some (.int b) := by
  unfold pF
  rw [lookup_putF, if_pos rfl]
theorem pF_no (a b : Nat) {m : Str} (h1 : ¬ m = "other") (h2 : ¬ m = "one") : (pF a b).lookup m = none := by
  unfold pF
  rw [lookup_putF, if_neg h1, lookup_putF, if_neg h2]
  rfl
theorem jF_jug (a : Nat) : (jF a).lookup ("jug" : Str) = some (.int a) := by
  unfold jF
  rw [lookup_putF, if_pos rfl]
theorem jF_no (a : Nat) {m : Str} (h1 : ¬ m = "jug") : (jF a).lookup m = none := by
  unfold jF
  rw [lookup_putF, if_neg h1]
  rfl
def Cz.cl (Z : Cz) : J.Mv → Addr
  | .pour _ _ => Z.P
  | .fill _ => Z.F
  | .emp _ => Z.E
def fsOf : J.Mv → List (Str × V)
  | .pour a b => pF a b
  | .fill a => jF a
  | .emp a => jF a
/-- a move stands at p -/
def MvAt (Z : Cz) (H : Hp) (p : Addr) (m : J.Mv) : Prop := ∃ dx, H p = some (.ins (Z.cl m) dx (fsOf m))
theorem MvAt.mono {Z : Cz} {H H' : Hp} {p : Addr} {m : J.Mv} (h : MvAt Z H p m) (s : Same H H') : MvAt Z H' p m := let ⟨dx, e⟩ := h; ⟨dx, s _ _ e⟩
structure CPo (K : PySem.W.Frag) (C : Addr) : Prop where
  cl : Cls K C
  one : NoAttr K C "one"
  other : NoAttr K C "other"
structure CJu (K : PySem.W.Frag) (C : Addr) : Prop where
  cl : Cls K C
  jug : NoAttr K C "jug"
theorem ixN_of {n j : Nat} (h : j < n) : ixN n (j : Int) = some j := by
  unfold ixN
  rw [if_pos (by omega), if_pos (by omega)]; simp
theorem map_set_int (l : List Int) (j : Nat) (v : Int) : (l.map V.int).set j (.int v) = (l.set j v).map V.int := by
  rw [List.map_set]
section
variable {P : Program} {w : World} {K : PySem.W.Frag} {mg : Str → Option Value} {base : Heap} {CH : Addr} {Z : Cz}
def sp_with_amount : Sp := fun vs H Q _ => ∃ (l : Addr) (xs : List Int) (j : Nat) (v : Int), vs = [.ref l, .int j, .int v] ∧ H l = some (.lst (xs.map V.int)) ∧ j < xs.length ∧
  ∀ m H', Same H H' → H' m = some (.lst ((xs.set j v).map V.int)) → Q (.ref m) H'
theorem ok_with_amount {f : Addr} {fd : FuncData} (F : Fun K "with_amount" "with_amount" s_with_amount f fd) (B : Bt mg) : FnOk P w K mg base CX0 1 f fd ["held", "jug", "many"] sp_with_amount := by
  refine F.ok sc_with_amount (fun vs H Q E h => ?_) (fun cdv A outer s H vs Q E hr h => ?_)
  · obtain ⟨l, xs, j, v, rfl, _⟩ := h
    rfl
  · obtain ⟨l, xs, j, v, rfl, hl, hj, k⟩ := h
    refine ⟨_, pss_cons (ps_set (i := 3) sc_with_amount.nd rfl (Or.inl rfl) (pe_callTy call_list_of (by rfl) B.list bt_list (pa_cons (pv 0) pa_nil)))
      (pss_cons (ps_asg (pv 2) (pg_sub (pv 3) (pv 1) set_list)) (pss_one (ps_ret (pv 3)))), ?_⟩
    refine ⟨_, rfl, l, _, rfl, .inl (SqL.of hl), fun m hm => ?_⟩
    refine ⟨_, rfl, _, rfl, _, rfl, m, _, _, j, rfl, rfl, upd_same, ixN_of (by simpa using hj), ?_⟩
    refine ⟨_, rfl, k m _ ((Same.new hm).put hm) ?_⟩
    rw [upd_same, map_set_int]
def sp_check_jug : Sp := fun vs H Q _ => ∃ (j : Nat), vs = [.int j] ∧ j ≤ 3 ∧ Q .non H
theorem ok_check_jug {f : Addr} {fd : FuncData} (F : Fun K "check_jug" "check_jug" s_check_jug f fd) (N : FnB P w K mg base 2 "is_jug" ["value"] sp_is_jug) : FnOk P w K mg base CX0 3 f fd ["jug"] sp_check_jug := by
  refine F.ok sc_check_jug (fun vs H Q E h => ?_) (fun cdv A outer s H vs Q E hr h => ?_)
  · obtain ⟨j, rfl, _⟩ := h
    rfl
  · obtain ⟨j, rfl, hj, k⟩ := h
    refine ⟨_, pss_one (ps_if (pt_not (pt_val (pe_fn N hr (pa_cons (pv 0) pa_nil)))) pss_never pss_nil), ?_⟩
    refine ⟨_, rfl, (j : Int), rfl, _, rfl, ?_⟩
    rw [decide_eq_true (by omega : (0 : Int) ≤ j), decide_eq_true (by omega : (j : Int) ≤ 3)]
    exact iteF k
def sp_check_house_has (CH : Addr) : Sp := fun vs H Q _ => ∃ p sz tap, ∃ (j : Nat), vs = [.ref p, .int j] ∧ House CH H p sz tap ∧ j < sz.length ∧ ∀ H', Same H H' → Q .non H'
theorem ok_check_house_has {f : Addr} {fd : FuncData} (F : Fun K "check_house_has" "check_house_has" s_check_house_has f fd) (B : Bt mg) (S : MeB P w K mg base 1 CH "sizes" ["self"] (sp_sizes CH)) :
    FnOk P w K mg base CX0 2 f fd ["house", "jug"] (sp_check_house_has CH) := by
  refine F.ok sc_check_house_has (fun vs H Q E h => ?_) (fun cdv A outer s H vs Q E hr h => ?_)
  · obtain ⟨p, sz, tap, j, rfl, _⟩ := h
    rfl
  · obtain ⟨p, sz, tap, j, rfl, hh, hj, k⟩ := h
    obtain ⟨dx, t, hp, ht⟩ := id hh
    refine ⟨_, pss_one (ps_if (pt_cmpR op_ge (pv 1) (pe_callB call_len_seq (by rfl) B.len PySem.boot_len (pa_cons (pe_me0 S (pv 0) hr) pa_nil)) (nomark _)) pss_never pss_nil), ?_⟩
    refine ⟨_, rfl, _, rfl, p, dx, _, rfl, hp, hF_no _ _ (by decide +kernel) (by decide +kernel), p, sz, tap, rfl, hh, fun m hm => ?_⟩
    refine ⟨m, _, rfl, .inl (SqL.of upd_same), _, _, rfl, rfl, _, rfl, ?_⟩
    rw [decide_eq_false (by simp; omega)]
    exact iteF (k _ (Same.new hm))
def sp_check_house_can_tap (CH : Addr) : Sp := fun vs H Q _ => ∃ p sz, ∃ (j : Nat), vs = [.ref p, .int j] ∧ House CH H p sz true ∧ j < sz.length ∧ ∀ H', Same H H' → Q .non H'
theorem ok_check_house_can_tap {f : Addr} {fd : FuncData} (F : Fun K "check_house_can_tap" "check_house_can_tap" s_check_house_can_tap f fd) (C : CHs K CH) (N : FnB P w K mg base 2 "check_house_has" ["house", "jug"] (sp_check_house_has CH)) :
    FnOk P w K mg base CX0 3 f fd ["house", "jug"] (sp_check_house_can_tap CH) := by
  refine F.ok sc_check_house_can_tap (fun vs H Q E h => ?_) (fun cdv A outer s H vs Q E hr h => ?_)
  · obtain ⟨p, sz, j, rfl, _⟩ := h
    rfl
  · obtain ⟨p, sz, j, rfl, hh, hj, k⟩ := h
    refine ⟨_, pss_cons (ps_expr (pe_fn N hr (pa_cons (pv 0) (pa_cons (pv 1) pa_nil)))) (pss_one (ps_if (pt_not (pt_val (pe_fld (pv 0) rfl))) pss_never pss_nil)), ?_⟩
    refine ⟨_, rfl, _, rfl, p, sz, true, j, rfl, hh, hj, fun H1 s1 => ?_⟩
    obtain ⟨dx, t, hp, ht⟩ := hh.mono s1
    exact ⟨_, rfl, p, CH, dx, _, _, rfl, hp, C.cl, C.tap, hF_tap _ _, _, rfl, iteF (k _ s1)⟩
def sp_Pour_init (Z : Cz) : Sp := fun vs H Q _ => ∃ (p dx : Addr) (a b : Nat), vs = [.ref p, .int a, .int b] ∧ H p = some (.ins Z.P dx []) ∧ a ≤ 3 ∧ b ≤ 3 ∧ a ≠ b ∧
  ∀ H', (∀ c o, H c = some o → c ≠ p → H' c = some o) → H' p = some (.ins Z.P dx (pF a b)) → Q .non H'
theorem ok_Pour_init {f : Addr} {fd : FuncData} (F : Fun K "__init__" "Pour.__init__" s_Pour_init f fd) (C : CPo K Z.P) (N : FnB P w K mg base 3 "check_jug" ["jug"] sp_check_jug) :
    FnOk P w K mg base CX0 4 f fd ["self", "one", "other"] (sp_Pour_init Z) := by
  refine F.ok sc_Pour_init (fun vs H Q E h => ?_) (fun cdv A outer s H vs Q E hr h => ?_)
  · obtain ⟨p, dx, a, b, rfl, _⟩ := h
    rfl
  · obtain ⟨p, dx, a, b, rfl, hp, ha, hb, hab, k⟩ := h
    refine ⟨_, pss_cons (ps_expr (pe_fn N hr (pa_cons (pv 1) pa_nil))) (pss_cons (ps_expr (pe_fn N hr (pa_cons (pv 2) pa_nil)))
      (pss_cons (ps_if (pt_cmpR op_eq (pv 1) (pv 2) (nomark _)) pss_never pss_nil)
      (pss_cons (ps_fld (pv 0) (pv 1) rfl) (pss_one (ps_fld (pv 0) (pv 2) rfl))))), ?_⟩
    refine ⟨_, rfl, a, rfl, ha, ?_⟩
    refine ⟨_, rfl, b, rfl, hb, ?_⟩
    refine ⟨_, rfl, _, rfl, rfl, _, rfl, ?_⟩
    rw [decide_eq_false (by simp; omega)]
    refine iteF ?_
    refine ⟨_, rfl, _, rfl, p, Z.P, dx, [], rfl, hp, C.cl, C.one, (by show 0 < 1000; decide), ?_⟩
    refine ⟨_, rfl, _, rfl, p, Z.P, dx, _, rfl, upd_same, C.cl, C.other, (by show 1 < 1000; decide), ?_⟩
    exact k _ (fun c o e hc => by rw [upd_ne hc, upd_ne hc]; exact e) upd_same
def sp_jug_init (C : Addr) : Sp := fun vs H Q _ => ∃ (p dx : Addr) (a : Nat), vs = [.ref p, .int a] ∧ H p = some (.ins C dx []) ∧ a ≤ 3 ∧
  ∀ H', (∀ c o, H c = some o → c ≠ p → H' c = some o) → H' p = some (.ins C dx (jF a)) → Q .non H'
theorem ok_Fill_init {f : Addr} {fd : FuncData} (F : Fun K "__init__" "Fill.__init__" s_Fill_init f fd) (C : CJu K Z.F) (N : FnB P w K mg base 3 "check_jug" ["jug"] sp_check_jug) :
    FnOk P w K mg base CX0 4 f fd ["self", "jug"] (sp_jug_init Z.F) := by
  refine F.ok sc_Fill_init (fun vs H Q E h => ?_) (fun cdv A outer s H vs Q E hr h => ?_)
  · obtain ⟨p, dx, a, rfl, _⟩ := h
    rfl
  · obtain ⟨p, dx, a, rfl, hp, ha, k⟩ := h
    refine ⟨_, pss_cons (ps_expr (pe_fn N hr (pa_cons (pv 1) pa_nil))) (pss_one (ps_fld (pv 0) (pv 1) rfl)), ?_⟩
    refine ⟨_, rfl, a, rfl, ha, ?_⟩
    refine ⟨_, rfl, _, rfl, p, Z.F, dx, [], rfl, hp, C.cl, C.jug, (by show 0 < 1000; decide), ?_⟩
    exact k _ (fun c o e hc => by rw [upd_ne hc]; exact e) upd_same
theorem ok_Empty_init {f : Addr} {fd : FuncData} (F : Fun K "__init__" "Empty.__init__" s_Empty_init f fd) (C : CJu K Z.E) (N : FnB P w K mg base 3 "check_jug" ["jug"] sp_check_jug) :
    FnOk P w K mg base CX0 4 f fd ["self", "jug"] (sp_jug_init Z.E) := by
  refine F.ok sc_Empty_init (fun vs H Q E h => ?_) (fun cdv A outer s H vs Q E hr h => ?_)
  · obtain ⟨p, dx, a, rfl, _⟩ := h
    rfl
  · obtain ⟨p, dx, a, rfl, hp, ha, k⟩ := h
    refine ⟨_, pss_cons (ps_expr (pe_fn N hr (pa_cons (pv 1) pa_nil))) (pss_one (ps_fld (pv 0) (pv 1) rfl)), ?_⟩
    refine ⟨_, rfl, a, rfl, ha, ?_⟩
    refine ⟨_, rfl, _, rfl, p, Z.E, dx, [], rfl, hp, C.cl, C.jug, (by show 0 < 1000; decide), ?_⟩
    exact k _ (fun c o e hc => by rw [upd_ne hc]; exact e) upd_same
/-- held_behind of each sort -/
def sp_hb (Z : Cz) (CH : Addr) (ok : J.Mv → Prop) : Sp := fun vs H Q _ => ∃ p h l sz tap st m, vs = [.ref p, .ref h, .ref l] ∧ ok m ∧ MvAt Z H p m ∧ House CH H h sz tap ∧ H l = some (.lst (st.map V.int)) ∧ J.IsSt sz st ∧ m.ok sz.length tap ∧
  ∀ r H', Same H H' → H' r = some (.lst ((J.behind sz st m).map V.int)) → Q (.ref r) H'
def isPour : J.Mv → Prop := fun m => match m with | .pour _ _ => True | _ => False
def isFill : J.Mv → Prop := fun m => match m with | .fill _ => True | _ => False
def isEmp : J.Mv → Prop := fun m => match m with | .emp _ => True | _ => False
theorem ok_Pour_hb {f : Addr} {fd : FuncData} (F : Fun K "held_behind" "Pour.held_behind" s_Pour_held_behind f fd) (B : Bt mg) (C : CPo K Z.P) (N : FnB P w K mg base 2 "check_house_has" ["house", "jug"] (sp_check_house_has CH))
    (S : MeB P w K mg base 1 CH "sizes" ["self"] (sp_sizes CH)) (W : FnB P w K mg base 1 "with_amount" ["held", "jug", "many"] sp_with_amount) :
    FnOk P w K mg base CX0 3 f fd ["self", "house", "held"] (sp_hb Z CH isPour) := by
  refine F.ok sc_Pour_held_behind (fun vs H Q E h => ?_) (fun cdv A outer s H vs Q E hr h => ?_)
  · obtain ⟨p, h', l, sz, tap, st, m, rfl, _⟩ := h
    rfl
  · obtain ⟨p, q, l, sz, tap, st, m, rfl, hm, hmv, hh, hl, hst, hok, k⟩ := h
    cases m with
    | fill a => exact hm.elim
    | emp a => exact hm.elim
    | pour a b =>
      obtain ⟨ha, hb, hab⟩ := hok
      have hr1 : Room 1 _ := hr.mono (by decide)
      have la : a < st.length := by rw [hst.len]; exact ha
      have lb : b < st.length := by rw [hst.len]; exact hb
      refine ⟨_, pss_cons (ps_expr (pe_fn N hr (pa_cons (pv 1) (pa_cons (pe_fld (pv 0) rfl) pa_nil)))) (pss_cons (ps_expr (pe_fn N hr (pa_cons (pv 1) (pa_cons (pe_fld (pv 0) rfl) pa_nil))))
        (pss_cons (ps_set (i := 3) sc_Pour_held_behind.nd rfl (Or.inl rfl) (pe_op op_sub (pe_ix ix_list (pe_me0 S (pv 1) hr1) (pe_fld (pv 0) rfl) (fun _ _ => rfl)) (pe_ix ix_list (pv 2) (pe_fld (pv 0) rfl) (fun _ _ => rfl))))
        (pss_cons (ps_set (i := 4) sc_Pour_held_behind.nd rfl (Or.inl rfl) (pe_callB (call_min2 rfl) (by rfl) B.min bt_min (pa_cons (pe_ix ix_list (pv 2) (pe_fld (pv 0) rfl) (fun _ _ => rfl)) (pa_cons (pv 3) pa_nil))))
        (pss_cons (ps_set (i := 5) sc_Pour_held_behind.nd rfl (Or.inl rfl) (pe_fn W hr1 (pa_cons (pv 2) (pa_cons (pe_fld (pv 0) rfl) (pa_cons (pe_op op_sub (pe_ix ix_list (pv 2) (pe_fld (pv 0) rfl) (fun _ _ => rfl)) (pv 4)) pa_nil)))))
        (pss_one (ps_ret (pe_fn W hr1 (pa_cons (pv 5) (pa_cons (pe_fld (pv 0) rfl) (pa_cons (pe_op op_add (pe_ix ix_list (pv 2) (pe_fld (pv 0) rfl) (fun _ _ => rfl)) (pv 4)) pa_nil)))))))))), ?_⟩
      obtain ⟨dp, hp⟩ := hmv
      have hp : H p = some (.ins Z.P dp (pF a b)) := hp
      refine ⟨_, rfl, _, rfl, p, Z.P, dp, _, _, rfl, hp, C.cl, C.one, pF_one _ _, q, sz, tap, a, rfl, hh, ha, fun H1 s1 => ?_⟩
      refine ⟨_, rfl, _, rfl, p, Z.P, dp, _, _, rfl, s1 _ _ hp, C.cl, C.other, pF_other _ _, q, sz, tap, b, rfl, hh.mono s1, hb, fun H2 s2 => ?_⟩
      have s02 := s1.trans s2
      obtain ⟨dq, t, hq, ht⟩ := hh.mono s02
      refine ⟨_, rfl, q, dq, _, rfl, hq, hF_no _ _ (by decide +kernel) (by decide +kernel), q, sz, tap, rfl, hh.mono s02, fun x hx => ?_⟩
      have s03 : Same H (upd H2 x (.lst (sz.map V.int))) := s02.lay hx
      refine ⟨_, rfl, p, Z.P, dp, _, _, rfl, s03 _ _ hp, C.cl, C.other, pF_other _ _, x, _, _, _, rfl, rfl, SqL.of upd_same, atI_nat (getV_of hb), ?_⟩
      refine ⟨_, rfl, _, rfl, p, Z.P, dp, _, _, rfl, s03 _ _ hp, C.cl, C.other, pF_other _ _, l, _, _, _, rfl, rfl, SqL.of (s03 _ _ hl), atI_nat (getV_of lb), _, _, rfl, rfl, ?_⟩
      refine ⟨_, rfl, _, rfl, p, Z.P, dp, _, _, rfl, s03 _ _ hp, C.cl, C.one, pF_one _ _, l, _, _, _, rfl, rfl, SqL.of (s03 _ _ hl), atI_nat (getV_of la), _, rfl, _, _, rfl, ?_⟩
      refine ⟨_, rfl, _, rfl, p, Z.P, dp, _, _, rfl, s03 _ _ hp, C.cl, C.one, pF_one _ _, _, rfl, _, rfl, p, Z.P, dp, _, _, rfl, s03 _ _ hp, C.cl, C.one, pF_one _ _, l, _, _, _, rfl, rfl, SqL.of (s03 _ _ hl), atI_nat (getV_of la), _, rfl, _, _, rfl, rfl, l, st, a, _, rfl, s03 _ _ hl, la, fun r H4 s4 e4 => ?_⟩
      have s04 := s03.trans s4
      refine ⟨_, rfl, _, rfl, p, Z.P, dp, _, _, rfl, s04 _ _ hp, C.cl, C.other, pF_other _ _, _, rfl, _, rfl, p, Z.P, dp, _, _, rfl, s04 _ _ hp, C.cl, C.other, pF_other _ _, l, _, _, _, rfl, rfl, SqL.of (s04 _ _ hl), atI_nat (getV_of lb), _, rfl, _, _, rfl, rfl, r, _, b, _, rfl, e4, (by simpa using lb), fun r' H5 s5 e5 => ?_⟩
      exact k r' H5 (s04.trans s5) e5
end
end Jug

namespace Jug
open PySem L2
/-! ### what stays: all objects but lists and dicts -/
def fx : HO → Bool
  | .lst _ => false
  | .dK _ => false
  | .dT _ => false
  | _ => true
def Fix (H H' : Hp) : Prop := ∀ c o, H c = some o → fx o = true → H' c = some o
theorem Fix.of {H H' : Hp} (s : Same H H') : Fix H H' := fun c o e _ => s c o e
theorem Fix.trans {H H1 H2 : Hp} (a : Fix H H1) (b : Fix H1 H2) : Fix H H2 := fun c o e f => b c o (a c o e f) f
theorem Fix.put {H : Hp} {l : Addr} {o o' : HO} (h : H l = some o) (f : fx o = false) : Fix H (upd H l o') := fun c u e g => by
  rw [upd_ne]
  · exact e
  · rintro rfl
    rw [h] at e
    cases e
    rw [f] at g
    cases g
theorem MvAt.fix {Z : Cz} {H H' : Hp} {p : Addr} {m : J.Mv} (h : MvAt Z H p m) (s : Fix H H') : MvAt Z H' p m := let ⟨dx, e⟩ := h; ⟨dx, s _ _ e rfl⟩
/-- a move, a tuple of ints, as values -/
def isM (Z : Cz) (H : Hp) : V → J.Mv → Prop := fun v m => ∃ p, v = .ref p ∧ MvAt Z H p m
def isTI (H : Hp) : V → List Int → Prop := fun v st => ∃ a, v = .ref a ∧ H a = some (.tup (st.map V.int))
theorem isM.fix {Z : Cz} {H H' : Hp} (s : Fix H H') : ∀ v m, isM Z H v m → isM Z H' v m := fun _ _ ⟨p, e, h⟩ => ⟨p, e, h.fix s⟩
theorem isTI.fix {H H' : Hp} (s : Fix H H') : ∀ v m, isTI H v m → isTI H' v m := fun _ _ ⟨p, e, h⟩ => ⟨p, e, s _ _ h rfl⟩
theorem pm_fix {Z : Cz} {H H' : Hp} {vs : List V} {ms : List J.Mv} (h : Paired (isM Z H) vs ms) (s : Fix H H') : Paired (isM Z H') vs ms := Paired.mapP h (isM.fix s)
theorem pt_fix {H H' : Hp} {vs : List V} {ms : List (List Int)} (h : Paired (isTI H) vs ms) (s : Fix H H') : Paired (isTI H') vs ms := Paired.mapP h (isTI.fix s)
structure CTy (K : PySem.W.Frag) (C : Addr) : Prop where
  ha : PySem.W.findIn K (.ref C) "__class__" = some (some (.builtin "object.__class__"))
  hn : PySem.W.specialIn K (.builtin "object.__class__") "__get__" = some (some (.builtin "getset_descriptor.__get__"))
  htk : PySem.W.takesIn K (.builtin "object.__class__") = some true
  hm : PySem.W.mroIn K C (.type "object") = some true
structure MvC (K : PySem.W.Frag) (mg : Str → Option Value) (Z : Cz) : Prop where
  po : CPo K Z.P
  fi : CJu K Z.F
  em : CJu K Z.E
  tP : CTy K Z.P
  tF : CTy K Z.F
  tE : CTy K Z.E
  gP : mg "Pour" = some (.ref Z.P)
  gF : mg "Fill" = some (.ref Z.F)
  gE : mg "Empty" = some (.ref Z.E)
  kFP : PySem.W.kitOne K (.ref Z.F) (.ref Z.P) = some false
  kEP : PySem.W.kitOne K (.ref Z.E) (.ref Z.P) = some false
  kEF : PySem.W.kitOne K (.ref Z.E) (.ref Z.F) = some false
section
variable {P : Program} {w : World} {K : PySem.W.Frag} {mg : Str → Option Value} {base : Heap} {CH : Addr} {Z : Cz}
theorem ok_Fill_hb {f : Addr} {fd : FuncData} (F : Fun K "held_behind" "Fill.held_behind" s_Fill_held_behind f fd) (B : Bt mg) (C : CJu K Z.F) (N : FnB P w K mg base 3 "check_house_can_tap" ["house", "jug"] (sp_check_house_can_tap CH))
    (S : MeB P w K mg base 1 CH "sizes" ["self"] (sp_sizes CH)) (W : FnB P w K mg base 1 "with_amount" ["held", "jug", "many"] sp_with_amount) :
    FnOk P w K mg base CX0 4 f fd ["self", "house", "held"] (sp_hb Z CH isFill) := by
  refine F.ok sc_Fill_held_behind (fun vs H Q E h => ?_) (fun cdv A outer s H vs Q E hr h => ?_)
  · obtain ⟨p, h', l, sz, tap, st, m, rfl, _⟩ := h
    rfl
  · obtain ⟨p, q, l, sz, tap, st, m, rfl, hm, hmv, hh, hl, hst, hok, k⟩ := h
    cases m with
    | pour a b => exact hm.elim
    | emp a => exact hm.elim
    | fill a =>
      obtain ⟨ha, rfl⟩ := hok
      have hr1 : Room 1 _ := hr.mono (by decide)
      have la : a < st.length := by rw [hst.len]; exact ha
      refine ⟨_, pss_cons (ps_expr (pe_fn N hr (pa_cons (pv 1) (pa_cons (pe_fld (pv 0) rfl) pa_nil))))
        (pss_one (ps_ret (pe_fn W hr1 (pa_cons (pv 2) (pa_cons (pe_fld (pv 0) rfl) (pa_cons (pe_ix ix_list (pe_me0 S (pv 1) hr1) (pe_fld (pv 0) rfl) (fun _ _ => rfl)) pa_nil)))))), ?_⟩
      obtain ⟨dp, hp⟩ := hmv
      have hp : H p = some (.ins Z.F dp (jF a)) := hp
      refine ⟨_, rfl, _, rfl, p, Z.F, dp, _, _, rfl, hp, C.cl, C.jug, jF_jug _, q, sz, a, rfl, hh, ha, fun H1 s1 => ?_⟩
      obtain ⟨dq, t, hq, ht⟩ := hh.mono s1
      refine ⟨_, rfl, _, rfl, p, Z.F, dp, _, _, rfl, s1 _ _ hp, C.cl, C.jug, jF_jug _, _, rfl, q, dq, _, rfl, hq, hF_no _ _ (by decide +kernel) (by decide +kernel), q, sz, true, rfl, hh.mono s1, fun x hx => ?_⟩
      have s2 : Same H (upd H1 x (.lst (sz.map V.int))) := s1.lay hx
      refine ⟨_, rfl, p, Z.F, dp, _, _, rfl, s2 _ _ hp, C.cl, C.jug, jF_jug _, x, _, _, _, rfl, rfl, SqL.of upd_same, atI_nat (getV_of ha), l, st, a, _, rfl, s2 _ _ hl, la, fun r H4 s4 e4 => ?_⟩
      exact k r H4 (s2.trans s4) e4
theorem ok_Empty_hb {f : Addr} {fd : FuncData} (F : Fun K "held_behind" "Empty.held_behind" s_Empty_held_behind f fd) (B : Bt mg) (C : CJu K Z.E) (N : FnB P w K mg base 3 "check_house_can_tap" ["house", "jug"] (sp_check_house_can_tap CH))
    (W : FnB P w K mg base 1 "with_amount" ["held", "jug", "many"] sp_with_amount) :
    FnOk P w K mg base CX0 4 f fd ["self", "house", "held"] (sp_hb Z CH isEmp) := by
  refine F.ok sc_Empty_held_behind (fun vs H Q E h => ?_) (fun cdv A outer s H vs Q E hr h => ?_)
  · obtain ⟨p, h', l, sz, tap, st, m, rfl, _⟩ := h
    rfl
  · obtain ⟨p, q, l, sz, tap, st, m, rfl, hm, hmv, hh, hl, hst, hok, k⟩ := h
    cases m with
    | pour a b => exact hm.elim
    | fill a => exact hm.elim
    | emp a =>
      obtain ⟨ha, rfl⟩ := hok
      have hr1 : Room 1 _ := hr.mono (by decide)
      have la : a < st.length := by rw [hst.len]; exact ha
      refine ⟨_, pss_cons (ps_expr (pe_fn N hr (pa_cons (pv 1) (pa_cons (pe_fld (pv 0) rfl) pa_nil))))
        (pss_one (ps_ret (pe_fn W hr1 (pa_cons (pv 2) (pa_cons (pe_fld (pv 0) rfl) (pa_cons pe_int pa_nil)))))), ?_⟩
      obtain ⟨dp, hp⟩ := hmv
      have hp : H p = some (.ins Z.E dp (jF a)) := hp
      refine ⟨_, rfl, _, rfl, p, Z.E, dp, _, _, rfl, hp, C.cl, C.jug, jF_jug _, q, sz, a, rfl, hh, ha, fun H1 s1 => ?_⟩
      refine ⟨_, rfl, _, rfl, p, Z.E, dp, _, _, rfl, s1 _ _ hp, C.cl, C.jug, jF_jug _, l, st, a, _, rfl, s1 _ _ hl, la, fun r H4 s4 e4 => ?_⟩
      exact k r H4 (s1.trans s4) e4
/-- move.done -/
def sp_done (Z : Cz) (CH : Addr) : Sp := fun vs H Q _ => ∃ p h a sz tap st m, vs = [.ref p, .ref h, .ref a] ∧ MvAt Z H p m ∧ House CH H h sz tap ∧ H a = some (.tup (st.map V.int)) ∧ J.IsSt sz st ∧ m.ok sz.length tap ∧
  ∀ r H', Same H H' → H' r = some (.tup ((J.behind sz st m).map V.int)) → Q (.ref r) H'
theorem ok_done {f : Addr} {fd : FuncData} (F : Fun K "done" "Move.done" s_Move_done f fd) (B : Bt mg) (N : FnB P w K mg base 2 "held_in" ["house", "state"] (sp_held_in CH))
    (HP : MeB P w K mg base 4 Z.P "held_behind" ["self", "house", "held"] (sp_hb Z CH isPour)) (HF : MeB P w K mg base 4 Z.F "held_behind" ["self", "house", "held"] (sp_hb Z CH isFill)) (HE : MeB P w K mg base 4 Z.E "held_behind" ["self", "house", "held"] (sp_hb Z CH isEmp)) :
    FnOk P w K mg base CX0 5 f fd ["self", "house", "state"] (sp_done Z CH) := by
  refine F.ok sc_Move_done (fun vs H Q E h => ?_) (fun cdv A outer s H vs Q E hr h => ?_)
  · obtain ⟨p, h', a, sz, tap, st, m, rfl, _⟩ := h
    rfl
  · obtain ⟨p, q, a, sz, tap, st, m, rfl, hmv, hh, ha, hst, hok, k⟩ := h
    have hr2 : Room 2 _ := hr.mono (by decide)
    obtain ⟨dp, hp⟩ := id hmv
    cases m with
    | pour x y =>
      refine ⟨_, pss_cons (ps_set (i := 3) sc_Move_done.nd rfl (Or.inl rfl) (pe_fn N hr2 (pa_cons (pv 1) (pa_cons (pv 2) pa_nil))))
        (pss_one (ps_ret (pe_callTy call_tuple_of (by rfl) B.tuple bt_tuple (pa_cons (pe_me HP (pv 0) hr (pa_cons (pv 1) (pa_cons (pv 3) pa_nil))) pa_nil)))), ?_⟩
      refine ⟨_, rfl, _, rfl, q, sz, tap, a, st, rfl, hh, ha, hst, fun l H1 s1 nl hl => ?_⟩
      refine ⟨_, rfl, p, dp, _, rfl, s1 _ _ hp, pF_no _ _ (by decide +kernel) (by decide +kernel), _, rfl, _, rfl, p, q, l, sz, tap, st, .pour x y, rfl, trivial, hmv.mono s1, hh.mono s1, hl, hst, hok, fun r H2 s2 hr2 => ?_⟩
      exact ⟨r, _, rfl, .inl ⟨SqL.of hr2, fun t nt => k t _ ((s1.trans s2).lay nt) upd_same⟩⟩
    | fill x =>
      refine ⟨_, pss_cons (ps_set (i := 3) sc_Move_done.nd rfl (Or.inl rfl) (pe_fn N hr2 (pa_cons (pv 1) (pa_cons (pv 2) pa_nil))))
        (pss_one (ps_ret (pe_callTy call_tuple_of (by rfl) B.tuple bt_tuple (pa_cons (pe_me HF (pv 0) hr (pa_cons (pv 1) (pa_cons (pv 3) pa_nil))) pa_nil)))), ?_⟩
      refine ⟨_, rfl, _, rfl, q, sz, tap, a, st, rfl, hh, ha, hst, fun l H1 s1 nl hl => ?_⟩
      refine ⟨_, rfl, p, dp, _, rfl, s1 _ _ hp, jF_no _ (by decide +kernel), _, rfl, _, rfl, p, q, l, sz, tap, st, .fill x, rfl, trivial, hmv.mono s1, hh.mono s1, hl, hst, hok, fun r H2 s2 hr2 => ?_⟩
      exact ⟨r, _, rfl, .inl ⟨SqL.of hr2, fun t nt => k t _ ((s1.trans s2).lay nt) upd_same⟩⟩
    | emp x =>
      refine ⟨_, pss_cons (ps_set (i := 3) sc_Move_done.nd rfl (Or.inl rfl) (pe_fn N hr2 (pa_cons (pv 1) (pa_cons (pv 2) pa_nil))))
        (pss_one (ps_ret (pe_callTy call_tuple_of (by rfl) B.tuple bt_tuple (pa_cons (pe_me HE (pv 0) hr (pa_cons (pv 1) (pa_cons (pv 3) pa_nil))) pa_nil)))), ?_⟩
      refine ⟨_, rfl, _, rfl, q, sz, tap, a, st, rfl, hh, ha, hst, fun l H1 s1 nl hl => ?_⟩
      refine ⟨_, rfl, p, dp, _, rfl, s1 _ _ hp, jF_no _ (by decide +kernel), _, rfl, _, rfl, p, q, l, sz, tap, st, .emp x, rfl, trivial, hmv.mono s1, hh.mono s1, hl, hst, hok, fun r H2 s2 hr2 => ?_⟩
      exact ⟨r, _, rfl, .inl ⟨SqL.of hr2, fun t nt => k t _ ((s1.trans s2).lay nt) upd_same⟩⟩
/-- moves_in -/
def anyMv (Z : Cz) : Addr → Prop := fun C => C = Z.P ∨ C = Z.F ∨ C = Z.E
theorem anyMv_cl (Z : Cz) (m : J.Mv) : anyMv Z (Z.cl m) := by
  cases m with
  | pour _ _ => exact .inl rfl
  | fill _ => exact .inr (.inl rfl)
  | emp _ => exact .inr (.inr rfl)
theorem fsOf_no (m : J.Mv) {x : Str} (h1 : ¬ x = "other") (h2 : ¬ x = "one") (h3 : ¬ x = "jug") : (fsOf m).lookup x = none := by
  cases m with
  | pour _ _ => exact pF_no _ _ h1 h2
  | fill _ => exact jF_no _ h3
  | emp _ => exact jF_no _ h3
end
end Jug

namespace Jug
open PySem L2
/-! ### houses -/
structure Hz (sz : List Int) : Prop where
  l1 : 1 ≤ sz.length
  l4 : sz.length ≤ 4
  bd : ∀ s ∈ sz, 1 ≤ s ∧ s ≤ 60
  pr : J.prod1 sz ≤ 2000
theorem Hz.nn {sz : List Int} (h : Hz sz) : ∀ i, i < sz.length → 0 ≤ J.at0 sz i := fun i hi => by
  have := h.bd _ (List.mem_of_getElem? (get_of hi))
  omega
theorem Hz.states_le {sz : List Int} (h : Hz sz) : (J.states sz).length ≤ 2000 := by
  have h1 := J.len_states (sz := sz) fun s hs => by have := h.bd s hs; omega
  have h2 := h.pr
  omega
section
variable {P : Program} {w : World} {K : PySem.W.Frag} {mg : Str → Option Value} {base : Heap} {CH : Addr} {Z : Cz}
def sp_count_states : Sp := fun vs H Q _ => ∃ l sz, vs = [.ref l] ∧ H l = some (.lst (sz.map V.int)) ∧ (∀ s ∈ sz, 1 ≤ s ∧ s ≤ 60) ∧ Q (.int (J.prod1 sz)) H
theorem ok_count_states {f : Addr} {fd : FuncData} (F : Fun K "count_states" "count_states" s_count_states f fd) : FnOk P w K mg base CX0 1 f fd ["sizes"] sp_count_states := by
  refine F.ok sc_count_states (fun vs H Q E h => ?_) (fun cdv A outer s H vs Q E hr h => ?_)
  · obtain ⟨l, sz, rfl, _⟩ := h
    rfl
  · obtain ⟨l, sz, rfl, hl, hb, k⟩ := h
    refine ⟨_, pss_cons (ps_set (i := 1) sc_count_states.nd rfl (Or.inl rfl) pe_int)
      (pss_cons (ps_for PassesOwn.never rfl (pi_list (pv 0)) (pg_name (i := 2) sc_count_states.nd rfl (Or.inl rfl))
        (pss_one (ps_set (i := 1) sc_count_states.nd rfl (Or.inl rfl) (pe_op op_mul (pv 1) (pe_op op_add (pv 2) pe_int)))))
      (pss_one (ps_ret (pv 1)))), ?_⟩
    refine ⟨_, rfl, l, rfl, ⟨_, SqL.of hl⟩, for_list (K := K) (a := l) (xs := sz.map V.int) (fun i σ H' => ∃ v, σ = [some (.ref l), some (.int ((sz.take i).foldl (fun m s => m * (s + 1)) 1)), v] ∧ H' = H)
      ⟨none, rfl, rfl⟩ (fun i σ H' _ ⟨_, _, e⟩ => by subst e; exact SqL.of hl) ?_ ?_⟩
    · rintro i x σ H' hx ⟨v, rfl, rfl⟩
      obtain ⟨z, ez, rfl⟩ := mem_ints hx
      have hz := hb z (List.mem_of_getElem? ez)
      refine ⟨_, rfl, _, rfl, _, _, rfl, rfl, _, _, rfl, rfl, .inr ⟨by omega, by omega⟩, ?_⟩
      refine ⟨some (.int z), ?_, rfl⟩
      rw [List.take_add_one, ez, List.foldl_append]
      rfl
    · rintro σ H' ⟨v, rfl, rfl⟩
      refine ⟨_, rfl, ?_⟩
      rw [List.length_map, List.take_length]
      exact k
def sp_sizes_in : Sp := fun vs H Q _ => ∃ l sz, vs = [.ref l] ∧ H l = some (.lst (sz.map V.int)) ∧ Hz sz ∧ ∀ r H', Same H H' → H' r = some (.lst (sz.map V.int)) → Q (.ref r) H'
theorem ok_sizes_in {f : Addr} {fd : FuncData} (F : Fun K "sizes_in" "sizes_in" s_sizes_in f fd) (B : Bt mg) (hst : ∃ t, mg "MOST_STATES" = some (.int 2000 t)) (N : FnB P w K mg base 1 "is_number" ["value", "least", "most"] sp_is_number)
    (C : FnB P w K mg base 1 "count_states" ["sizes"] sp_count_states) : FnOk P w K mg base CX0 2 f fd ["sizes"] sp_sizes_in := by
  obtain ⟨t4, e4⟩ := B.jugs
  obtain ⟨t60, e60⟩ := B.size
  obtain ⟨t2, e2⟩ := hst
  refine F.ok sc_sizes_in (fun vs H Q E h => ?_) (fun cdv A outer s H vs Q E hr h => ?_)
  · obtain ⟨l, sz, rfl, _⟩ := h
    rfl
  · obtain ⟨l, sz, rfl, hl, hz, k⟩ := h
    refine ⟨_, pss_cons (ps_if (pt_not (pt_val (pe_callB call_isinst (by rfl) B.isinstance bt_isinstance (pa_cons (pv 0) (pa_cons (pe_bltn (v := .ty "list") (by rfl) B.list bt_list rfl) pa_nil))))) pss_never pss_nil)
      (pss_cons (ps_set (i := 1) sc_sizes_in.nd rfl (Or.inl rfl) (pe_callTy call_list_of (by rfl) B.list bt_list (pa_cons (pv 0) pa_nil)))
      (pss_cons (ps_if (pt_not (pt_chain op_le op_le pe_int (pe_callB call_len_seq (by rfl) B.len PySem.boot_len (pa_cons (pv 1) pa_nil)) (pe_glob (v := .int 4) (by rfl) e4 ⟨_, rfl⟩))) pss_never pss_nil)
      (pss_cons (ps_for PassesOwn.never rfl (pi_list (pv 1)) (pg_name (i := 2) sc_sizes_in.nd rfl (Or.inl rfl))
        (pss_one (ps_if (pt_not (pt_val (pe_fn N hr (pa_cons (pv 2) (pa_cons pe_int (pa_cons (pe_glob (v := .int 60) (by rfl) e60 ⟨_, rfl⟩) pa_nil)))))) pss_never pss_nil)))
      (pss_cons (ps_if (pt_cmpR op_gt (pe_fn C hr (pa_cons (pv 1) pa_nil)) (pe_glob (v := .int 2000) (by rfl) e2 ⟨_, rfl⟩) (nomark _)) pss_never pss_nil)
      (pss_one (ps_ret (pv 1))))))), ?_⟩
    refine ⟨_, rfl, _, _, _, _, _, rfl, .ty "list", .lst hl, kit_ll, _, rfl, iteF ?_⟩
    refine ⟨_, rfl, l, _, rfl, .inl (SqL.of hl), fun r nr => ?_⟩
    have s1 : Same H (upd H r (.lst (sz.map V.int))) := Same.new nr
    refine ⟨_, rfl, r, _, rfl, .inl (SqL.of upd_same), _, _, rfl, rfl, _, rfl, ?_⟩
    have h1 := hz.l1
    have h4 := hz.l4
    rw [decide_eq_true (by simp; omega)]
    refine iteT ⟨_, _, rfl, rfl, _, rfl, ?_⟩
    rw [decide_eq_true (by simp; omega)]
    refine iteF ?_
    refine ⟨_, rfl, r, rfl, ⟨_, SqL.of upd_same⟩, for_list (K := K) (a := r) (xs := sz.map V.int) (fun i σ H' => ∃ v, σ = [some (.ref l), some (.ref r), v] ∧ H' = upd H r (.lst (sz.map V.int)))
      ⟨none, rfl, rfl⟩ (fun i σ H' _ ⟨_, _, e⟩ => by subst e; exact SqL.of upd_same) ?_ ?_⟩
    · rintro i x σ H' hx ⟨v, rfl, rfl⟩
      obtain ⟨z, ez, rfl⟩ := mem_ints hx
      have hb := hz.bd z (List.mem_of_getElem? ez)
      refine ⟨_, rfl, z, 1, 60, rfl, _, rfl, ?_⟩
      rw [decide_eq_true hb.1, decide_eq_true hb.2]
      exact iteF ⟨_, rfl, rfl⟩
    · rintro σ H' ⟨v, rfl, rfl⟩
      refine ⟨_, rfl, r, sz, rfl, upd_same, hz.bd, _, _, rfl, rfl, _, rfl, ?_⟩
      have := hz.pr
      rw [decide_eq_false (by omega)]
      exact iteF ⟨_, rfl, k r _ s1 upd_same⟩
def sp_House_init (CH : Addr) : Sp := fun vs H Q _ => ∃ (p dx l : Addr) (sz : List Int) (tap : Bool), vs = [.ref p, .ref l, .bl tap] ∧ H p = some (.ins CH dx []) ∧ H l = some (.lst (sz.map V.int)) ∧ Hz sz ∧
  ∀ H', (∀ c o, H c = some o → c ≠ p → H' c = some o) → House CH H' p sz tap → Q .non H'
theorem ok_House_init {f : Addr} {fd : FuncData} (F : Fun K "__init__" "House.__init__" s_House_init f fd) (B : Bt mg) (C : CHs K CH) (N : FnB P w K mg base 2 "sizes_in" ["sizes"] sp_sizes_in) :
    FnOk P w K mg base CX0 3 f fd ["self", "sizes", "tap"] (sp_House_init CH) := by
  refine F.ok sc_House_init (fun vs H Q E h => ?_) (fun cdv A outer s H vs Q E hr h => ?_)
  · obtain ⟨p, dx, l, sz, tap, rfl, _⟩ := h
    rfl
  · obtain ⟨p, dx, l, sz, tap, rfl, hp, hl, hz, k⟩ := h
    refine ⟨_, pss_cons (ps_fld (pv 0) (pe_callTy call_tuple_of (by rfl) B.tuple bt_tuple (pa_cons (pe_fn N hr (pa_cons (pv 1) pa_nil)) pa_nil)) rfl)
      (pss_cons (ps_if (pt_not (pt_val (pe_callB call_isinst (by rfl) B.isinstance bt_isinstance (pa_cons (pv 2) (pa_cons (pe_bltn (v := .ty "bool") (by rfl) B.bool bt_bool rfl) pa_nil))))) pss_never pss_nil)
      (pss_one (ps_fld (pv 0) (pv 2) rfl))), ?_⟩
    refine ⟨_, rfl, l, sz, rfl, hl, hz, fun r H1 s1 hr1 => ?_⟩
    refine ⟨r, _, rfl, .inl ⟨SqL.of hr1, fun t nt => ?_⟩⟩
    have s2 : Same H (upd H1 t (.tup (sz.map V.int))) := s1.lay nt
    have tp : t ≠ p := fun e => by subst e; rw [s1 _ _ hp] at nt; cases nt
    refine ⟨_, rfl, p, CH, dx, [], rfl, s2 _ _ hp, C.cl, C.js, (by show 0 < 1000; decide), ?_⟩
    refine ⟨_, rfl, _, _, _, _, _, rfl, .ty "bool", .bl tap, kit_bb, _, rfl, iteF ?_⟩
    refine ⟨_, rfl, _, rfl, p, CH, dx, _, rfl, upd_same, C.cl, C.tap, (by show 1 < 1000; decide), ?_⟩
    refine k _ (fun c o e hc => by rw [upd_ne hc, upd_ne hc]; exact s2 _ _ e) ⟨dx, t, upd_same, ?_⟩
    rw [upd_ne tp, upd_ne tp, upd_same]
end
end Jug

namespace Jug
open PySem L2
/-! ### all moves, all states -/
def row (n a : Nat) : List J.Mv := ((List.range n).filter fun b => b != a).map fun b => J.Mv.pour a b
def rowTo (a j : Nat) : List J.Mv := ((List.range j).filter fun b => b != a).map fun b => J.Mv.pour a b
theorem rowTo_len (a j : Nat) : (rowTo a j).length ≤ j := by
  unfold rowTo
  rw [List.length_map]
  exact Nat.le_trans (List.length_filter_le _ _) (by simp)
theorem rowTo_eq (a j : Nat) : rowTo a (j + 1) = rowTo a j ++ (if j = a then [] else [J.Mv.pour a j]) := by
  unfold rowTo
  rw [List.range_succ, List.filter_append, List.map_append]
  congr 1
  by_cases h : j = a
  · simp [h]
  · simp [h]
theorem rows_len (n : Nat) : ∀ i, ((List.range i).flatMap (row n)).length ≤ i * n
  | 0 => by simp
  | i + 1 => by
    rw [List.range_succ, List.flatMap_append, List.length_append]
    have := rows_len n i
    have h2 := rowTo_len i n
    simp only [List.flatMap_cons, List.flatMap_nil, List.append_nil]
    have h3 : (row n i).length = (rowTo i n).length := rfl
    rw [Nat.succ_mul]
    omega
theorem Paired.snocP {α β : Type} {F : α → β → Prop} {a : α} {b : β} {l₁ : List α} {l₂ : List β} (h : Paired F l₁ l₂) (h' : F a b) : Paired F (l₁ ++ [a]) (l₂ ++ [b]) := PySem.Paired.snoc h h'
theorem Paired.appP {α β : Type} {F : α → β → Prop} : ∀ {l₁ m₁ : List α} {l₂ m₂ : List β}, Paired F l₁ l₂ → Paired F m₁ m₂ → Paired F (l₁ ++ m₁) (l₂ ++ m₂)
  | _, _, _, _, .nil, h => h
  | _, _, _, _, .cons r t, h => .cons r (Paired.appP t h)
section
variable {P : Program} {w : World} {K : PySem.W.Frag} {mg : Str → Option Value} {base : Heap} {CH : Addr} {Z : Cz}
def sp_pours_among (Z : Cz) : Sp := fun vs H Q _ => ∃ n : Nat, vs = [.int n] ∧ n ≤ 4 ∧ ∀ r H' xs, Same H H' → H r = none → H' r = some (.lst xs) → Paired (isM Z H') xs (J.pours n) → Q (.ref r) H'
theorem ok_pours_among {f : Addr} {fd : FuncData} (F : Fun K "pours_among" "pours_among" s_pours_among f fd) (B : Bt mg) (M : MkB P w K mg base 4 "Pour" Z.P ["self", "one", "other"] (sp_Pour_init Z)) :
    FnOk P w K mg base CX0 6 f fd ["many"] (sp_pours_among Z) := by
  refine F.ok sc_pours_among (fun vs H Q E h => ?_) (fun cdv A outer s H vs Q E hr h => ?_)
  · obtain ⟨n, rfl, _⟩ := h
    rfl
  · obtain ⟨n, rfl, hn, k⟩ := h
    refine ⟨_, pss_cons (ps_set (i := 1) sc_pours_among.nd rfl (Or.inl rfl) (pe_lst pa_nil))
      (pss_cons (ps_for PassesOwn.never rfl (pi_range1 (by rfl) B.range (pa_cons (pv 0) pa_nil)) (pg_name (i := 2) sc_pours_among.nd rfl (Or.inl rfl))
        (pss_one (ps_for PassesOwn.never rfl (pi_range1 (by rfl) B.range (pa_cons (pv 0) pa_nil)) (pg_name (i := 3) sc_pours_among.nd rfl (Or.inl rfl))
          (pss_one (ps_if (pt_cmpR op_ne (pv 2) (pv 3) (nomark _)) (pss_one (ps_expr (pe_append (pv 1) (pe_mk M hr (pa_cons (pv 2) (pa_cons (pv 3) pa_nil)))))) pss_nil)))))
      (pss_one (ps_ret (pv 1)))), ?_⟩
    refine ⟨(by show 0 ≤ sizeLine; decide), fun r nr => ?_⟩
    have s1 : Same H (upd H r (.lst [])) := Same.new nr
    refine ⟨_, rfl, (n : Int), rfl, by omega, by omega, for_rangeN (n := n) (fun i σ H' => ∃ xs v2 v3, σ = [some (.int n), some (.ref r), v2, v3] ∧ Same H H' ∧ H' r = some (.lst xs) ∧ Paired (isM Z H') xs ((List.range i).flatMap (row n)))
      ⟨[], none, none, rfl, s1, upd_same, .nil⟩ ?_ ?_⟩
    · rintro i σ H1 hi ⟨xs, v2, v3, rfl, s2, e2, p2⟩
      refine ⟨_, rfl, (n : Int), rfl, by omega, by omega, for_rangeN (n := n) (fun j σ H' => ∃ xs v3, σ = [some (.int n), some (.ref r), some (.int i), v3] ∧ Same H H' ∧ H' r = some (.lst xs) ∧ Paired (isM Z H') xs ((List.range i).flatMap (row n) ++ rowTo i j))
        ⟨xs, v3, rfl, s2, e2, by simpa [rowTo] using p2⟩ ?_ ?_⟩
      · rintro j σ H2 hj ⟨ys, v3, rfl, s3, e3, p3⟩
        refine ⟨_, rfl, _, rfl, rfl, _, rfl, ?_⟩
        by_cases hij : i = j
        · subst hij
          rw [decide_eq_true rfl]
          refine iteF ⟨ys, _, rfl, s3, e3, ?_⟩
          rw [rowTo_eq, if_pos rfl, List.append_nil]
          exact p3
        · rw [decide_eq_false (by simp; omega)]
          refine iteT ?_
          refine ⟨_, rfl, .inl ⟨rfl, _, SqL.of e3⟩, _, rfl, _, rfl, fun x dx nx ndx nex => ?_⟩
          refine ⟨x, dx, i, j, rfl, upd_same, by omega, by omega, hij, fun H4 kp hx => ⟨rfl, ?_⟩⟩
          have s4 : Same H2 H4 := fun c o e => kp c o (by rw [upd_ne (ne_of_none e nx), upd_ne (ne_of_none e ndx)]; exact e) (ne_of_none e nx)
          have hlen : ys.length ≤ 20 := by
            have h1 := p3.length
            have h2 := rows_len n i
            have h3 := rowTo_len i j
            rw [List.length_append] at h1
            have h4 : i * n ≤ 3 * 4 := Nat.mul_le_mul (by omega) hn
            omega
          refine ⟨r, _, _, rfl, rfl, s4 _ _ e3, small1000 (by omega), ?_⟩
          have fx1 : Fix H4 (upd H4 r (.lst (ys ++ [.ref x]))) := Fix.put (s4 _ _ e3) rfl
          refine ⟨_, _, rfl, (s3.trans s4).put nr, upd_same, ?_⟩
          rw [rowTo_eq, if_neg (fun e => hij e.symm), ← List.append_assoc]
          exact Paired.snocP (pm_fix p3 ((Fix.of s4).trans fx1)) ⟨x, rfl, dx, fx1 _ _ hx rfl⟩
      · rintro σ H2 ⟨ys, v3, rfl, s3, e3, p3⟩
        refine ⟨ys, _, _, rfl, s3, e3, ?_⟩
        rw [List.range_succ, List.flatMap_append]
        have e : (List.flatMap (row n) [i]) = rowTo i n := by simp [row, rowTo]
        rw [e]; exact p3
    · rintro σ H1 ⟨xs, v2, v3, rfl, s2, e2, p2⟩
      exact ⟨_, rfl, k r H1 xs s2 nr e2 p2⟩
def sp_moves (Z : Cz) (CH : Addr) : Sp := fun vs H Q _ => ∃ p sz tap, vs = [.ref p] ∧ House CH H p sz tap ∧ Hz sz ∧ ∀ r H' ys, Same H H' → H r = none → H' r = some (.lst ys) → Paired (isM Z H') ys (J.moves sz.length tap) → Q (.ref r) H'
theorem ok_moves {f : Addr} {fd : FuncData} (F : Fun K "moves" "House.moves" s_House_moves f fd) (B : Bt mg) (C : CHs K CH) (W : FnB P w K mg base 6 "pours_among" ["many"] (sp_pours_among Z))
    (MF : MkB P w K mg base 4 "Fill" Z.F ["self", "jug"] (sp_jug_init Z.F)) (ME : MkB P w K mg base 4 "Empty" Z.E ["self", "jug"] (sp_jug_init Z.E)) : FnOk P w K mg base CX0 7 f fd ["self"] (sp_moves Z CH) := by
  refine F.ok sc_House_moves (fun vs H Q E h => ?_) (fun cdv A outer s H vs Q E hr h => ?_)
  · obtain ⟨p, sz, tap, rfl, _⟩ := h
    rfl
  · obtain ⟨p, sz, tap, rfl, ⟨dx, t, hp, ht⟩, hz, k⟩ := h
    have hr5 : Room 5 _ := hr.mono (by decide)
    refine ⟨_, pss_cons (ps_set (i := 1) sc_House_moves.nd rfl (Or.inl rfl) (pe_callB call_len_seq (by rfl) B.len PySem.boot_len (pa_cons (pe_fld (pv 0) rfl) pa_nil)))
      (pss_cons (ps_set (i := 2) sc_House_moves.nd rfl (Or.inl rfl) (pe_fn W hr (pa_cons (pv 1) pa_nil)))
      (pss_cons (ps_if (pt_val (pe_fld (pv 0) rfl))
        (pss_cons (ps_expr (pe_extend (pv 2) (pe_lc sc_House_moves [] (pi_range1 (by rfl) B.range (pa_cons (pv 1) pa_nil)) (fun _ _ _ _ _ _ => ⟨pif_nil, pe_mk MF hr5 (pa_cons (pv 0) pa_nil)⟩))))
        (pss_one (ps_expr (pe_extend (pv 2) (pe_lc sc_House_moves [] (pi_range1 (by rfl) B.range (pa_cons (pv 1) pa_nil)) (fun _ _ _ _ _ _ => ⟨pif_nil, pe_mk ME hr5 (pa_cons (pv 0) pa_nil)⟩)))))) pss_nil)
      (pss_one (ps_ret (pv 2))))), ?_⟩
    have h4 := hz.l4
    refine ⟨_, rfl, p, CH, dx, _, _, rfl, hp, C.cl, C.js, hF_js _ _, t, _, rfl, .inr (SqT.of ht), ?_⟩
    rw [List.length_map]
    refine ⟨_, rfl, sz.length, rfl, h4, fun r H1 xs s1 nr e1 p1 => ?_⟩
    refine ⟨_, rfl, p, CH, dx, _, _, rfl, s1 _ _ hp, C.cl, C.tap, hF_tap _ _, _, rfl, ?_⟩
    have hlp : (J.pours sz.length).length ≤ 16 := by
      have h5 := rows_len sz.length sz.length
      have h6 : sz.length * sz.length ≤ 4 * 4 := Nat.mul_le_mul h4 h4
      exact Nat.le_trans h5 h6
    cases tap with
    | false =>
      refine iteF ⟨_, rfl, k r H1 xs s1 nr e1 ?_⟩
      simpa [J.moves] using p1
    | true =>
      refine iteT ?_
      -- told.extend([Fill(jug) ..])
      refine ⟨_, rfl, .inl ⟨rfl, _, SqL.of e1⟩, _, rfl, _, rfl, by omega, by omega, ?_⟩
      rw [Int.toNat_natCast]
      refine lc_rangeN (n := sz.length) (fun i ys H' => Same H1 H' ∧ Paired (isM Z H') ys ((List.range i).map J.Mv.fill)) ⟨Same.refl _, .nil⟩ (small1000 (by omega)) (fun i ys H' ⟨_, q⟩ => by rw [q.length]; simp) ?_ ?_
      · rintro i ys H2 hi ⟨s2, p2⟩
        refine tYes_of ⟨_, rfl, fun x dx' nx ndx nex => ⟨x, dx', i, rfl, upd_same, by omega, fun H4 kp hx => ⟨rfl, ?_⟩⟩⟩
        have s4 : Same H2 H4 := fun c o e => kp c o (by rw [upd_ne (ne_of_none e nx), upd_ne (ne_of_none e ndx)]; exact e) (ne_of_none e nx)
        refine ⟨s2.trans s4, ?_⟩
        rw [List.range_succ, List.map_append]
        exact Paired.snocP (pm_fix p2 (Fix.of s4)) ⟨x, rfl, dx', hx⟩
      · rintro ys H2 ⟨s2, p2⟩ D nD
        have s3 : Same H2 (upd H2 D (.lst ys)) := Same.new nD
        have e3 := s3 _ _ (s2 _ _ e1)
        have l1 := p1.length
        have l2 := p2.length
        rw [List.length_map, List.length_range] at l2
        refine ⟨r, D, xs, ys, rfl, rfl, e3, upd_same, Nat.le_of_lt (small1000 (by omega)), ?_⟩
        have f3 : Fix (upd H2 D (.lst ys)) (upd (upd H2 D (.lst ys)) r (.lst (xs ++ ys))) := Fix.put e3 rfl
        have s4 : Same H (upd (upd H2 D (.lst ys)) r (.lst (xs ++ ys))) := ((s1.trans s2).trans s3).put nr
        have p3 : Paired (isM Z (upd (upd H2 D (.lst ys)) r (.lst (xs ++ ys)))) (xs ++ ys) (J.pours sz.length ++ (List.range sz.length).map J.Mv.fill) :=
          Paired.appP (pm_fix p1 ((Fix.of (s2.trans s3)).trans f3)) (pm_fix p2 ((Fix.of s3).trans f3))
        refine ⟨_, rfl, .inl ⟨rfl, _, SqL.of upd_same⟩, _, rfl, _, rfl, by omega, by omega, ?_⟩
        rw [Int.toNat_natCast]
        refine lc_rangeN (n := sz.length) (fun i zs H' => Same (upd (upd H2 D (.lst ys)) r (.lst (xs ++ ys))) H' ∧ Paired (isM Z H') zs ((List.range i).map J.Mv.emp)) ⟨Same.refl _, .nil⟩ (small1000 (by omega)) (fun i ys H' ⟨_, q⟩ => by rw [q.length]; simp) ?_ ?_
        · rintro i zs H5 hi ⟨s5, p5⟩
          refine tYes_of ⟨_, rfl, fun x dx' nx ndx nex => ⟨x, dx', i, rfl, upd_same, by omega, fun H6 kp hx => ⟨rfl, ?_⟩⟩⟩
          have s6 : Same H5 H6 := fun c o e => kp c o (by rw [upd_ne (ne_of_none e nx), upd_ne (ne_of_none e ndx)]; exact e) (ne_of_none e nx)
          refine ⟨s5.trans s6, ?_⟩
          rw [List.range_succ, List.map_append]
          exact Paired.snocP (pm_fix p5 (Fix.of s6)) ⟨x, rfl, dx', hx⟩
        · rintro zs H5 ⟨s5, p5⟩ D2 nD2
          have s6 : Same H5 (upd H5 D2 (.lst zs)) := Same.new nD2
          have e6 := s6 _ _ (s5 _ _ upd_same)
          have l5 := p5.length
          rw [List.length_map, List.length_range] at l5
          refine ⟨r, D2, _, zs, rfl, rfl, e6, upd_same, Nat.le_of_lt (small1000 (by rw [List.length_append]; omega)), ?_⟩
          have f6 : Fix (upd H5 D2 (.lst zs)) (upd (upd H5 D2 (.lst zs)) r (.lst ((xs ++ ys) ++ zs))) := Fix.put e6 rfl
          refine ⟨_, rfl, k r _ _ (((s4.trans s5).trans s6).put nr) nr upd_same ?_⟩
          have e7 : J.moves sz.length true = (J.pours sz.length ++ (List.range sz.length).map J.Mv.fill) ++ (List.range sz.length).map J.Mv.emp := by simp [J.moves]
          rw [e7]
          exact Paired.appP (pm_fix p3 ((Fix.of (s5.trans s6)).trans f6)) (pm_fix p5 ((Fix.of s6).trans f6))
end
end Jug

namespace Jug
open PySem L2
/-! ### the walk -/
def kOf (st : List Int) : List Key := st.map Sum.inl
theorem kOf_map (st : List Int) : (kOf st).map kV = st.map V.int := by
  unfold kOf
  rw [List.map_map]
  rfl
theorem kOf_inj {a b : List Int} (h : kOf a = kOf b) : a = b := by
  unfold kOf at h
  exact List.map_inj_right (fun x y e => Sum.inl.inj e) |>.mp h
/-- what stands in the dict beside a state -/
def WVal (Z : Cz) (H : Hp) (W : List J.Way) : V → Option (Nat × J.Mv) → Prop
  | v, none => v = .non
  | v, some (q, m) => ∃ t a p x, v = .ref t ∧ H t = some (.tup [.ref a, .ref p]) ∧ W[q]? = some x ∧ H a = some (.tup (x.1.map V.int)) ∧ MvAt Z H p m
def WD (Z : Cz) (H : Hp) (W : List J.Way) : List (List Key × V) → List J.Way → Prop := Paired fun kv x => kv.1 = kOf x.1 ∧ WVal Z H W kv.2 x.2
theorem WVal.fix {Z : Cz} {H H' : Hp} {W : List J.Way} {v : V} : ∀ {o : Option (Nat × J.Mv)}, WVal Z H W v o → Fix H H' → WVal Z H' W v o
  | none, h, _ => h
  | some (_, _), ⟨t, a, p, x, e, h1, h2, h3, h4⟩, s => ⟨t, a, p, x, e, s _ _ h1 rfl, h2, s _ _ h3 rfl, h4.fix s⟩
theorem WVal.more {Z : Cz} {H : Hp} {W V' : List J.Way} {v : V} : ∀ {o : Option (Nat × J.Mv)}, WVal Z H W v o → WVal Z H (W ++ V') v o
  | none, h => h
  | some (_, _), ⟨t, a, p, x, e, h1, h2, h3, h4⟩ => ⟨t, a, p, x, e, h1, by rw [List.getElem?_append_left (List.getElem?_eq_some_iff.mp h2).1]; exact h2, h3, h4⟩
theorem WD.fix {Z : Cz} {H H' : Hp} {W : List J.Way} {kvs : List (List Key × V)} {ws : List J.Way} (h : WD Z H W kvs ws) (s : Fix H H') : WD Z H' W kvs ws := Paired.mapP h fun _ _ z => ⟨z.1, z.2.fix s⟩
theorem WD.more {Z : Cz} {H : Hp} {W V' : List J.Way} {kvs : List (List Key × V)} {ws : List J.Way} (h : WD Z H W kvs ws) : WD Z H (W ++ V') kvs ws := Paired.mapP h fun _ _ z => ⟨z.1, z.2.more⟩
theorem WD.keys {Z : Cz} {H : Hp} {W : List J.Way} : ∀ {kvs : List (List Key × V)} {ws : List J.Way}, WD Z H W kvs ws → kvs.map (·.1) = ws.map fun x => kOf x.1
  | _, _, .nil => rfl
  | _, _, .cons h t => by rw [List.map_cons, List.map_cons, WD.keys t, h.1]
theorem WD.has {Z : Cz} {H : Hp} {W : List J.Way} {kvs : List (List Key × V)} {ws : List J.Way} (h : WD Z H W kvs ws) (y : List Int) : (valV kvs (kOf y)).isSome = decide (y ∈ ws.map (·.1)) := by
  rw [← valV_any, Bool.eq_iff_iff]
  simp only [List.any_eq_true, decide_eq_true_iff]
  constructor
  · rintro ⟨kv, h1, h2⟩
    have : kOf y ∈ kvs.map (·.1) := List.mem_map.mpr ⟨kv, h1, h2⟩
    rw [h.keys] at this
    obtain ⟨x, h3, h4⟩ := List.mem_map.mp this
    exact List.mem_map.mpr ⟨x, h3, kOf_inj h4⟩
  · intro hy
    obtain ⟨x, h3, h4⟩ := List.mem_map.mp hy
    have : kOf y ∈ kvs.map (·.1) := by rw [h.keys]; exact List.mem_map.mpr ⟨x, h3, by rw [h4]⟩
    obtain ⟨kv, h1, h2⟩ := List.mem_map.mp this
    exact ⟨kv, h1, h2⟩
/-- the walk so far, in the heap -/
def WS (Z : Cz) (Hb H' : Hp) (d rw : Addr) (W : List J.Way) : Prop := ∃ kvs rs, Same Hb H' ∧ H' d = some (.dT kvs) ∧ H' rw = some (.lst rs) ∧ Paired (isTI H') rs (W.map (·.1)) ∧ WD Z H' W kvs W
theorem WS.same {Z : Cz} {Hb H' H'' : Hp} {d rw : Addr} {W : List J.Way} (h : WS Z Hb H' d rw W) (s : Same H' H'') : WS Z Hb H'' d rw W := by
  obtain ⟨kvs, rs, s0, e1, e2, p, wd⟩ := h
  exact ⟨kvs, rs, s0.trans s, s _ _ e1, s _ _ e2, pt_fix p (Fix.of s), wd.fix (Fix.of s)⟩
theorem ws_add {Z : Cz} {Hb H' : Hp} {d rw tt a p bb : Addr} {W : List J.Way} {kvs : List (List Key × V)} {rs : List V} {q : Nat} {m : J.Mv} {x : J.Way} {y : List Int} (nd : Hb d = none) (nr : Hb rw = none) (s0 : Same Hb H') (e1 : H' d = some (.dT kvs))
    (e2 : H' rw = some (.lst rs)) (p1 : Paired (isTI H') rs (W.map (·.1))) (wd : WD Z H' W kvs W) (nt : H' tt = none) (hx : W[q]? = some x) (ha : H' a = some (.tup (x.1.map V.int))) (hm : MvAt Z H' p m) (hb : H' bb = some (.tup (y.map V.int))) :
    WS Z Hb (upd (upd (upd H' tt (.tup [.ref a, .ref p])) d (.dT (kvs ++ [(kOf y, .ref tt)]))) rw (.lst (rs ++ [.ref bb]))) d rw (W ++ [(y, some (q, m))]) ∧ Fix H' (upd (upd (upd H' tt (.tup [.ref a, .ref p])) d (.dT (kvs ++ [(kOf y, .ref tt)]))) rw (.lst (rs ++ [.ref bb]))) := by
  have dtt : d ≠ tt := ne_of_none e1 nt
  have rtt : rw ≠ tt := ne_of_none e2 nt
  have drw : d ≠ rw := ne_of e1 e2 (by intro h; cases h)
  have g1 : (upd H' tt (.tup [.ref a, .ref p])) d = some (.dT kvs) := by rw [upd_ne dtt]; exact e1
  have g2 : (upd (upd H' tt (.tup [.ref a, .ref p])) d (.dT (kvs ++ [(kOf y, .ref tt)]))) rw = some (.lst rs) := by rw [upd_ne drw.symm, upd_ne rtt]; exact e2
  have f1 : Fix H' (upd (upd (upd H' tt (.tup [.ref a, .ref p])) d (.dT (kvs ++ [(kOf y, .ref tt)]))) rw (.lst (rs ++ [.ref bb]))) := ((Fix.of (Same.new nt)).trans (Fix.put g1 rfl)).trans (Fix.put g2 rfl)
  refine ⟨⟨kvs ++ [(kOf y, .ref tt)], rs ++ [.ref bb], ((s0.lay nt).put nd).put nr, ?_, upd_same, ?_, ?_⟩, f1⟩
  · rw [upd_ne drw, upd_same]
  · rw [List.map_append]
    exact Paired.snocP (pt_fix p1 f1) ⟨bb, rfl, f1 _ _ hb rfl⟩
  · refine Paired.snocP (wd.fix f1).more ⟨rfl, tt, a, p, x, rfl, ?_, ?_, f1 _ _ ha rfl, hm.fix f1⟩
    · rw [upd_ne rtt.symm, upd_ne dtt.symm, upd_same]
    · rw [List.getElem?_append_left (List.getElem?_eq_some_iff.mp hx).1]
      exact hx
theorem addAll_pre {sz here : List Int} {p : Nat} {i : Nat} {y : J.Way} : ∀ (ms : List J.Mv) {W : List J.Way}, W[i]? = some y → (J.addAll sz here p ms W)[i]? = some y
  | [], _, h => h
  | _ :: ms, _, h => addAll_pre ms (J.addOne_pre h)
theorem addAll_take {sz here : List Int} {p : Nat} {W : List J.Way} {ms : List J.Mv} {j : Nat} {m : J.Mv} (h : ms[j]? = some m) : J.addAll sz here p (ms.take (j + 1)) W = J.addOne sz here p (J.addAll sz here p (ms.take j) W) m := by
  rw [List.take_add_one, h]
  simp [J.addAll]
theorem addAll_len {sz here : List Int} {p : Nat} : ∀ (ms : List J.Mv) {W : List J.Way}, (J.addAll sz here p ms W).length ≤ W.length + ms.length
  | [], _ => Nat.le_refl _
  | m :: ms, W => by
    have h1 := addAll_len (sz := sz) (here := here) (p := p) ms (W := J.addOne sz here p W m)
    have h2 : (J.addOne sz here p W m).length ≤ W.length + 1 := by
      unfold J.addOne
      split
      · omega
      · simp
    have h3 : J.addAll sz here p (m :: ms) W = J.addAll sz here p ms (J.addOne sz here p W m) := rfl
    rw [h3, List.length_cons]
    omega
theorem moves_len : ∀ n, n < 5 → ∀ tap, (J.moves n tap).length ≤ 20 := by decide +kernel
section
variable {P : Program} {w : World} {K : PySem.W.Frag} {mg : Str → Option Value} {base : Heap} {CH : Addr} {Z : Cz}
def sp_ways (Z : Cz) (CH : Addr) : Sp := fun vs H Q _ => ∃ p a sz tap st, vs = [.ref p, .ref a] ∧ House CH H p sz tap ∧ Hz sz ∧ H a = some (.tup (st.map V.int)) ∧ J.IsSt sz st ∧
  ∀ d H' kvs, Same H H' → H d = none → H' d = some (.dT kvs) → WD Z H' (J.ways sz (J.moves sz.length tap) st) kvs (J.ways sz (J.moves sz.length tap) st) → Q (.ref d) H'
theorem ok_ways {f : Addr} {fd : FuncData} (F : Fun K "ways_from" "ways_from" s_ways_from f fd) (B : Bt mg) (N : FnB P w K mg base 2 "held_in" ["house", "state"] (sp_held_in CH)) (MO : MeB P w K mg base 7 CH "moves" ["self"] (sp_moves Z CH))
    (D : ∀ C, anyMv Z C → MeB P w K mg base 5 C "done" ["self", "house", "state"] (sp_done Z CH)) : FnOk P w K mg base CX0 8 f fd ["house", "state"] (sp_ways Z CH) := by
  refine F.ok sc_ways_from (fun vs H Q E h => ?_) (fun cdv A outer s H vs Q E hr h => ?_)
  · obtain ⟨p, a, sz, tap, st, rfl, _⟩ := h
    rfl
  · obtain ⟨p, a, sz, tap, st, rfl, hh, hz, ha, hst, k⟩ := h
    have hu := hr.units
    refine ⟨_, pss_cons (ps_set (i := 2) sc_ways_from.nd rfl (Or.inl rfl) (pe_callTy call_tuple_of (by rfl) B.tuple bt_tuple (pa_cons (pe_fn N (hr.mono (by decide)) (pa_cons (pv 0) (pa_cons (pv 1) pa_nil))) pa_nil)))
      (pss_cons (ps_set (i := 3) sc_ways_from.nd rfl (Or.inl rfl) (pe_me0 MO (pv 0) (hr.mono (by decide))))
      (pss_cons (ps_set (i := 4) sc_ways_from.nd rfl (Or.inl rfl) (pe_disp1T hr.units0 (pv 2) pe_non))
      (pss_cons (ps_set (i := 5) sc_ways_from.nd rfl (Or.inl rfl) (pe_lst (pa_cons (pv 2) pa_nil)))
      (pss_cons (ps_set (i := 6) sc_ways_from.nd rfl (Or.inl rfl) pe_int)
      (pss_cons (ps_while PassesOwn.never (pt_cmpR op_lt (pv 6) (pe_callB call_len_seq (by rfl) B.len PySem.boot_len (pa_cons (pv 5) pa_nil)) (nomark _))
        (pss_cons (ps_set (i := 7) sc_ways_from.nd rfl (Or.inl rfl) (pe_ix ix_list (pv 5) (pv 6) (fun _ _ => rfl)))
        (pss_cons (ps_for PassesOwn.never rfl (pi_list (pv 3)) (pg_name (i := 8) sc_ways_from.nd rfl (Or.inl rfl))
          (pss_cons (ps_set (i := 9) sc_ways_from.nd rfl (Or.inl rfl) (pe_meU D (pv 8) (hr.mono (by decide)) (pa_cons (pv 0) (pa_cons (pv 7) pa_nil))))
          (pss_one (ps_if (pt_cmp (pc_dnotin (Nat.lt_of_le_of_lt (Nat.add_le_add_left (by decide) _) hu) (pv 9) (pv 4)) rfl)
            (pss_cons (ps_dput (Nat.lt_of_le_of_lt (Nat.add_le_add_left (by decide) _) hu) (pv 4) (pv 9) (pe_tup (pa_cons (pv 7) (pa_cons (pv 8) pa_nil))) rfl) (pss_one (ps_expr (pe_append (pv 5) (pv 9)))))
            pss_nil))))
        (pss_one (ps_aug (i := 6) sc_ways_from.nd rfl (Or.inl rfl) pe_int ip_add)))))
      (pss_one (ps_ret (pv 4)))))))), ?_⟩
    obtain ⟨dx, tz, hp, htz⟩ := id hh
    refine ⟨_, rfl, _, rfl, p, sz, tap, a, st, rfl, hh, ha, hst, fun y H2 s2 ny ey => ?_⟩
    refine ⟨y, _, rfl, .inl ⟨SqL.of ey, fun t nt => ?_⟩⟩
    have s3 : Same H (upd H2 t (.tup (st.map V.int))) := s2.lay nt
    refine ⟨_, rfl, p, dx, _, rfl, s3 _ _ hp, hF_no _ _ (by decide +kernel) (by decide +kernel), p, sz, tap, rfl, hh.mono s3, hz, fun r H4 ys s4 nr er pm => ?_⟩
    have et : H4 t = some (.tup (st.map V.int)) := s4 _ _ upd_same
    refine fun d nd => ⟨_, rfl, kOf st, t, rfl, ?_, upd_same, ?_⟩
    · rw [upd_ne (ne_of_none et nd), kOf_map]
      exact et
    rw [upd_upd]
    refine ⟨_, rfl, (by show 1 ≤ sizeLine; decide), fun rw nrw => ?_⟩
    have drw : d ≠ rw := fun e => by subst e; rw [upd_same] at nrw; cases nrw
    have nrw4 : H4 rw = none := by rwa [upd_ne drw.symm] at nrw
    have nd0 : H d = none := by
      cases e : H d with
      | none => rfl
      | some o => have := (s3.trans s4) _ _ e; rw [nd] at this; cases this
    have hg := J.good_moves (tap := tap) hz.nn
    have hle := hz.states_le
    refine ⟨fun n σ H' => ∃ (pl : Nat) (v7 v8 v9 : Option V), σ = [some (.ref p), some (.ref a), some (.ref t), some (.ref r), some (.ref d), some (.ref rw), some (.int pl), v7, v8, v9] ∧ WS Z H4 H' d rw (J.run sz (J.moves sz.length tap) st pl) ∧ n = (J.states sz).length - pl,
      ⟨_, 0, none, none, none, rfl, ⟨[(kOf st, .non)], [.ref t], ((Same.refl _).put nd).put nrw4, (by rw [upd_ne drw, upd_same]), upd_same, .cons ⟨t, rfl, ?_⟩ .nil, .cons ⟨rfl, rfl⟩ .nil⟩, rfl⟩, ?_⟩
    · rw [upd_ne (ne_of_none et nrw4), upd_ne (ne_of_none et nd)]
      exact et
    rintro n σ H' ⟨pl, v7, v8, v9, rfl, ws, rfl⟩
    obtain ⟨kvs, rs, s5, e1, e2, p1, wd⟩ := id ws
    have hl : rs.length = (J.run sz (J.moves sz.length tap) st pl).length := by have := p1.length; simpa using this
    have rl := J.run_le hg hst pl
    refine ⟨_, rfl, _, rfl, rw, _, rfl, .inl (SqL.of e2), _, _, rfl, rfl, _, rfl, ?_⟩
    by_cases c : (pl : Int) < (rs.length : Int)
    · rw [decide_eq_true c]
      obtain ⟨x, hx⟩ : ∃ x, (J.run sz (J.moves sz.length tap) st pl)[pl]? = some x := ⟨_, List.getElem?_eq_getElem (by omega)⟩
      have hv : rs[pl]? = some (rs[pl]'(by omega)) := by simp
      obtain ⟨z, hz', aa, eaa, haa⟩ := L2.Paired.get p1 hv
      rw [List.getElem?_map, hx] at hz'
      cases hz'
      rw [eaa] at hv
      have hxs : J.IsSt sz x.1 := (J.run_inv hg hst pl).sts x (List.mem_of_getElem? hx)
      refine iteT ⟨fun σ' H'' => ∃ v8 v9 : Option V, σ' = [some (.ref p), some (.ref a), some (.ref t), some (.ref r), some (.ref d), some (.ref rw), some (.int ((pl : Int) + 1)), some (.ref aa), v8, v9] ∧ WS Z H4 H'' d rw (J.run sz (J.moves sz.length tap) st (pl + 1)),
        fun σ' H'' ⟨v8, v9, e, w'⟩ => ⟨_, by omega, pl + 1, _, v8, v9, e, w', rfl⟩, ?_⟩
      refine ⟨_, rfl, _, rfl, rw, _, _, _, rfl, rfl, SqL.of e2, atI_nat hv, ?_⟩
      refine ⟨_, rfl, r, rfl, ⟨_, SqL.of (s5 _ _ er)⟩, for_list (K := K) (a := r) (xs := ys) (fun j σ H'' => ∃ v8 v9 : Option V, σ = [some (.ref p), some (.ref a), some (.ref t), some (.ref r), some (.ref d), some (.ref rw), some (.int pl), some (.ref aa), v8, v9] ∧ H'' aa = some (.tup (x.1.map V.int)) ∧
        WS Z H4 H'' d rw (J.addAll sz x.1 pl ((J.moves sz.length tap).take j) (J.run sz (J.moves sz.length tap) st pl))) ⟨v8, v9, rfl, haa, by simpa [J.addAll] using ws⟩ (fun j σ H'' _ ⟨_, _, _, _, _, _, s6, _⟩ => SqL.of (s6 _ _ er)) ?_ ?_⟩
      · rintro j v σ H6 hv' ⟨v8, v9, rfl, ha6, ws6⟩
        obtain ⟨m, hm, pp, rfl, hmv⟩ := L2.Paired.get pm hv'
        obtain ⟨_, _, s6, _⟩ := id ws6
        obtain ⟨dp, hpp⟩ := hmv.mono s6
        refine ⟨_, rfl, Z.cl m, pp, dp, _, anyMv_cl Z m, rfl, hpp, fsOf_no m (by decide +kernel) (by decide +kernel) (by decide +kernel), _, rfl, _, rfl, pp, p, aa, sz, tap, _, m, rfl, hmv.mono s6, hh.mono (s3.trans (s4.trans s6)), ha6, hxs, J.mem_moves.mp (List.mem_of_getElem? hm), fun bb H7 s7 e7 => ?_⟩
        have ws7 := ws6.same s7
        obtain ⟨kv7, rs7, s70, e71, e72, p71, wd7⟩ := id ws7
        refine ⟨_, rfl, _, rfl, d, _, rfl, DGet.t (k := kOf (J.behind sz x.1 m)) e71 (by rw [kOf_map]; exact e7), _, rfl, ?_⟩
        rw [addAll_take hm]
        rw [wd7.has]
        by_cases hin : J.behind sz x.1 m ∈ (J.addAll sz x.1 pl ((J.moves sz.length tap).take j) (J.run sz (J.moves sz.length tap) st pl)).map (·.1)
        · rw [decide_eq_true hin]
          refine iteF ⟨_, _, rfl, s7 _ _ ha6, ?_⟩
          unfold J.addOne
          rw [if_pos hin]
          exact ws7
        · have no := wd7.has (J.behind sz x.1 m)
          rw [decide_eq_false hin] at no
          rw [decide_eq_false hin]
          have hno : valV kv7 (kOf (J.behind sz x.1 m)) = none := by
            cases e : valV kv7 (kOf (J.behind sz x.1 m)) with
            | none => rfl
            | some v => rw [e] at no; cases no
          have l1 := wd7.length
          have l2 := addAll_len (sz := sz) (here := x.1) (p := pl) ((J.moves sz.length tap).take j) (W := J.run sz (J.moves sz.length tap) st pl)
          have l3 := moves_len sz.length (by have := hz.l4; omega) tap
          have l4 : ((J.moves sz.length tap).take j).length ≤ (J.moves sz.length tap).length := by rw [List.length_take]; exact Nat.min_le_right _ _
          have l5 := p71.length
          rw [List.length_map] at l5
          have g1 : ∀ tt, H7 tt = none → (upd H7 tt (.tup [.ref aa, .ref pp])) d = some (.dT kv7) := fun tt n => by rw [upd_ne (ne_of_none e71 n)]; exact e71
          refine iteT ⟨_, rfl, _, rfl, (by show 2 ≤ sizeLine; decide), fun tt ntt => ⟨_, rfl, _, rfl, d, _, rfl, DPut.t (k := kOf (J.behind sz x.1 m)) (g1 tt ntt) (by rw [kOf_map, upd_ne (ne_of_none e7 ntt)]; exact e7) (by rw [sizeLine_eq]; omega), ?_⟩⟩
          rw [putK_new _ hno]
          have drw7 : rw ≠ d := ne_of e72 e71 (by intro h; cases h)
          have g2 : (upd (upd H7 tt (.tup [.ref aa, .ref pp])) d (.dT (kv7 ++ [(kOf (J.behind sz x.1 m), .ref tt)]))) rw = some (.lst rs7) := by rw [upd_ne drw7, upd_ne (ne_of_none e72 ntt)]; exact e72
          refine ⟨_, rfl, .inl ⟨rfl, _, SqL.of g2⟩, _, rfl, rw, _, _, rfl, rfl, g2, (by rw [sizeLine_eq]; omega), ?_⟩
          obtain ⟨wsn, fxn⟩ := ws_add nd nrw4 s70 e71 e72 p71 wd7 ntt (addAll_pre _ hx) (s7 _ _ ha6) (hmv.mono (s6.trans s7)) e7
          refine ⟨_, _, rfl, fxn _ _ (s7 _ _ ha6) rfl, ?_⟩
          unfold J.addOne
          rw [if_neg hin]
          exact wsn
      · rintro σ H6 ⟨v8, v9, rfl, ha6, ws6⟩
        refine ⟨_, rfl, _, _, rfl, rfl, _, _, rfl, ?_⟩
        rw [J.run_step hx]
        rw [pm.length, List.take_length] at ws6
        exact ws6
    · rw [decide_eq_false c]
      refine ⟨_, rfl, k d H' kvs (s3.trans (s4.trans s5)) nd0 e1 ?_⟩
      rw [J.run_end hg hst (p := pl) (by omega)] at wd
      exact wd
end
end Jug

namespace Jug
open PySem L2
/-! ### the amounts measured -/
def addK (ks : List Int) (v : Int) : List Int := if v ∈ ks then ks else ks ++ [v]
theorem addK_nd {ks : List Int} (h : ks.Nodup) (v : Int) : (addK ks v).Nodup := by
  unfold addK
  split
  · exact h
  · rename_i hv
    rw [List.nodup_append]
    refine ⟨h, by simp, fun a ha b hb e => ?_⟩
    have : b = v := by simpa using hb
    subst this; subst e
    exact hv ha
theorem addK_mem {ks : List Int} {v x : Int} : x ∈ addK ks v ↔ x ∈ ks ∨ x = v := by
  unfold addK
  split
  · rename_i hv
    constructor
    · exact .inl
    · rintro (h | rfl)
      · exact h
      · exact hv
  · simp
theorem put_keys {kvs : List (Key × V)} {ks : List Int} (h : kvs.map (·.1) = ks.map Sum.inl) (v : Int) (u : V) : (putK kvs (Sum.inl v) u).map (·.1) = (addK ks v).map Sum.inl := by
  have e : (kvs.any fun kv => decide (kv.1 = Sum.inl v)) = decide (v ∈ ks) := by
    rw [Bool.eq_iff_iff]
    simp only [List.any_eq_true, decide_eq_true_iff]
    constructor
    · rintro ⟨kv, h1, h2⟩
      have : (Sum.inl v : Key) ∈ kvs.map (·.1) := List.mem_map.mpr ⟨kv, h1, h2⟩
      rw [h] at this
      obtain ⟨x, h3, h4⟩ := List.mem_map.mp this
      cases h4
      exact h3
    · intro hv
      have : (Sum.inl v : Key) ∈ kvs.map (·.1) := by rw [h]; exact List.mem_map.mpr ⟨v, hv, rfl⟩
      obtain ⟨kv, h1, h2⟩ := List.mem_map.mp this
      exact ⟨kv, h1, h2⟩
  unfold putK addK
  rw [e]
  by_cases hv : v ∈ ks
  · rw [if_pos (decide_eq_true hv), if_pos hv, ← h, List.map_map]
    refine List.map_congr_left fun kv _ => ?_
    show (if kv.1 = Sum.inl v then (kv.1, u) else kv).1 = kv.1
    split <;> rfl
  · rw [if_neg (by rw [decide_eq_false hv]; exact Bool.false_ne_true), if_neg hv, List.map_append, List.map_append, h]
    rfl
/-- what has been seen -/
def Am (H' : Hp) (am : Addr) (S : List Int) : Prop := ∃ (kvs : List (Key × V)) (ks : List Int), H' am = some (.dK kvs) ∧ kvs.map (·.1) = ks.map Sum.inl ∧ ks.Nodup ∧ (∀ v, v ∈ ks ↔ v ∈ S)
theorem ints_le {ks : List Int} (h : ks.Nodup) (hb : ∀ v ∈ ks, 0 ≤ v ∧ v ≤ 60) : ks.length ≤ 61 := by
  have := J.nodup_le ks ((List.range 61).map fun (n : Nat) => (n : Int)) h fun v hv => by
    obtain ⟨h1, h2⟩ := hb v hv
    exact List.mem_map.mpr ⟨v.toNat, List.mem_range.mpr (by omega), by omega⟩
  simpa using this
theorem st_bounds {sz st : List Int} (hz : Hz sz) (h : J.IsSt sz st) {v : Int} (hv : v ∈ st) : 0 ≤ v ∧ v ≤ 60 := by
  obtain ⟨i, hi, e⟩ := List.mem_iff_getElem.mp hv
  have hl := h.len
  have b := h.bnd i (by omega)
  have e1 : J.at0 st i = v := by unfold J.at0; simp [hi, e]
  have hi' : i < sz.length := by omega
  have e2 : J.at0 sz i ∈ sz := by unfold J.at0; simp [hi']
  have := hz.bd _ e2
  rw [e1] at b
  omega
theorem bt_sorted : bootBuiltins "sorted" = some (.builtin "sorted") := by decide +kernel
section
variable {P : Program} {w : World} {K : PySem.W.Frag} {mg : Str → Option Value} {base : Heap} {CH : Addr} {Z : Cz}
def sp_measured (CH : Addr) : Sp := fun vs H Q _ => ∃ p a sz tap st, vs = [.ref p, .ref a] ∧ House CH H p sz tap ∧ Hz sz ∧ H a = some (.tup (st.map V.int)) ∧ J.IsSt sz st ∧
  ∀ (l : Addr) (H' : Hp) (ys : List Int), Same H H' → H l = none → H' l = some (.lst (ys.map V.int)) → ys.Nodup → ys.Pairwise (· ≤ ·) → (∀ v, v ∈ ys ↔ ∃ x ∈ J.ways sz (J.moves sz.length tap) st, v ∈ x.1) → Q (.ref l) H'
theorem ok_measured {f : Addr} {fd : FuncData} (F : Fun K "measured" "measured" s_measured f fd) (hs : mg "sorted" = none) (WY : FnB P w K mg base 8 "ways_from" ["house", "state"] (sp_ways Z CH)) : FnOk P w K mg base CX0 9 f fd ["house", "state"] (sp_measured CH) := by
  refine F.ok sc_measured (fun vs H Q E h => ?_) (fun cdv A outer s H vs Q E hr h => ?_)
  · obtain ⟨p, a, sz, tap, st, rfl, _⟩ := h
    rfl
  · obtain ⟨p, a, sz, tap, st, rfl, hh, hz, ha, hst, k⟩ := h
    have hu := hr.units
    refine ⟨_, pss_cons (ps_set (i := 2) sc_measured.nd rfl (Or.inl rfl) pe_dnewK)
      (pss_cons (ps_for PassesOwn.never rfl (pi_dt (pe_fn WY hr (pa_cons (pv 0) (pa_cons (pv 1) pa_nil)))) (pg_name (i := 3) sc_measured.nd rfl (Or.inl rfl))
        (pss_one (ps_for PassesOwn.never rfl (pi_tup (pv 3)) (pg_name (i := 4) sc_measured.nd rfl (Or.inl rfl))
          (pss_one (ps_dput (Nat.lt_of_le_of_lt (Nat.add_le_add_left (by decide) _) hu) (pv 2) (pv 4) pe_bl rfl)))))
      (pss_one (ps_ret (pe_callB (call_sorted_dk rfl) (by rfl) hs bt_sorted (pa_cons (pv 2) pa_nil))))), ?_⟩
    intro am nam
    have s1 : Same H (upd H am (.dK [])) := Same.new nam
    have hg := J.good_moves (tap := tap) hz.nn
    refine ⟨_, rfl, _, rfl, p, a, sz, tap, st, rfl, hh.mono s1, hz, s1 _ _ ha, hst, fun d H2 kvs s2 nd e2 wd => ⟨d, kvs, rfl, .inl ⟨e2, fun o => ?_⟩⟩⟩
    have nd0 : H d = none := by
      cases e : H d with
      | none => rfl
      | some o => have := s1 _ _ e; rw [nd] at this; cases this
    have amd : am ≠ d := fun e => by subst e; rw [upd_same] at nd; cases nd
    have bds : ∀ x ∈ J.ways sz (J.moves sz.length tap) st, ∀ v ∈ x.1, 0 ≤ v ∧ v ≤ 60 := fun x hx v hv => st_bounds hz ((J.ways_inv hg hst).sts x hx) hv
    have seen : ∀ (ks : List Int) (i : Nat), (∀ v, v ∈ ks ↔ v ∈ ((J.ways sz (J.moves sz.length tap) st).take i).flatMap (·.1)) → ∀ v ∈ ks, 0 ≤ v ∧ v ≤ 60 := fun ks i h v hv => by
      obtain ⟨x, hx, hv'⟩ := List.mem_flatMap.mp ((h v).mp hv)
      exact bds x (List.mem_of_mem_take hx) v hv'
    refine for_dt (a := d) (kvs := kvs) (o := o) (fun i σ H' => ∃ v3 v4 : Option V, σ = [some (.ref p), some (.ref a), some (.ref am), v3, v4] ∧ Same H H' ∧ H' d = some (.frz o (.dT kvs)) ∧ Am H' am (((J.ways sz (J.moves sz.length tap) st).take i).flatMap (·.1)))
      ⟨none, none, rfl, (s1.trans s2).put nd0, upd_same, [], [], (by rw [upd_ne amd]; exact s2 _ _ upd_same), rfl, .nil, fun v => by simp⟩ (fun i σ H' _ ⟨_, _, _, _, e, _⟩ => e) ?_ ?_
    · rintro i k' v b σ H' hk hb ⟨v3, v4, rfl, s4, ed, am4⟩
      obtain ⟨x, hx, ek, _⟩ := L2.Paired.get wd hk
      have ek' : k' = kOf x.1 := ek
      rw [ek', kOf_map] at hb
      have hxm := List.mem_of_getElem? hx
      refine ⟨_, rfl, b, rfl, ⟨_, SqT.of hb⟩, for_tup (K := K) (a := b) (xs := x.1.map V.int) (fun j σ H'' => ∃ v4 : Option V, σ = [some (.ref p), some (.ref a), some (.ref am), some (.ref b), v4] ∧ Same H H'' ∧ H'' d = some (.frz o (.dT kvs)) ∧ H'' b = some (.tup (x.1.map V.int)) ∧
        Am H'' am (((J.ways sz (J.moves sz.length tap) st).take i).flatMap (·.1) ++ x.1.take j)) ⟨v4, rfl, s4, ed, hb, by simpa using am4⟩ (fun j σ H'' _ ⟨_, _, _, _, e, _⟩ => SqT.of e) ?_ ?_⟩
      · rintro j y σ H6 hy ⟨v4, rfl, s6, ed6, hb6, kv6, ks6, e6, k6, n6, m6⟩
        rw [List.getElem?_map] at hy
        obtain ⟨z, hz1, rfl⟩ := Option.map_eq_some_iff.mp hy
        have hl : ks6.length ≤ 61 := ints_le n6 fun v hv => by
          rcases List.mem_append.mp ((m6 v).mp hv) with h | h
          · obtain ⟨x', hx', hv'⟩ := List.mem_flatMap.mp h
            exact bds x' (List.mem_of_mem_take hx') v hv'
          · exact bds x hxm v (List.mem_of_mem_take h)
        have lk : kv6.length = ks6.length := by have := congrArg List.length k6; simpa using this
        refine ⟨_, rfl, _, rfl, am, _, rfl, DPut.k (k := Sum.inl z) e6 (by rw [sizeLine_eq]; omega), ?_⟩
        refine ⟨_, rfl, s6.put nam, (by rw [upd_ne (ne_of ed6 e6 (by intro h; cases h))]; exact ed6), (by rw [upd_ne (ne_of hb6 e6 (by intro h; cases h))]; exact hb6), _, addK ks6 z, upd_same, put_keys k6 _ _, addK_nd n6 z, fun v => ?_⟩
        rw [addK_mem, m6, List.take_add_one, hz1]
        simp [or_assoc]
      · rintro σ H6 ⟨v4, rfl, s6, ed6, hb6, am6⟩
        refine ⟨_, _, rfl, s6, ed6, ?_⟩
        rw [List.length_map, List.take_length] at am6
        rw [List.take_add_one, hx]
        simpa using am6
    · rintro σ H' ⟨v3, v4, rfl, s4, ed, kv, ks, e, ek, nk, mem⟩
      have lw : kvs.length = (J.ways sz (J.moves sz.length tap) st).length := wd.length
      have hl : ks.length ≤ 61 := ints_le nk (seen ks _ mem)
      refine ⟨_, rfl, am, ks, rfl, ⟨kv, .inl e, ek⟩, by omega, fun l ys nl hp hs' => k l _ ys (s4.lay nl) (s4.free nl) upd_same (hp.nodup_iff.mpr nk) hs' fun v => ?_⟩
      rw [hp.mem_iff, mem, lw, List.take_length]
      simp
end
end Jug

namespace Jug
open PySem L2
/-! ### what the laws draw -/
theorem bt_range : bootBuiltins "range" = some (.type "range") := by decide +kernel
def prm : List Int := [1000003, 1000033, 1000037, 1000039, 1000081, 1000099, 1000117, 1000121, 1000133, 1000151, 1000159, 1000171, 1000183, 1000187, 1000193, 1000199]
theorem prm_pos : ∀ j : Nat, j < 16 → 0 < J.at0 prm j := by decide
def mos : List Int := [60, 11, 4, 2]
/-- sizes as a law draws them -/
structure LSz (sz : List Int) : Prop where
  l1 : 1 ≤ sz.length
  l4 : sz.length ≤ 4
  bd : ∀ s ∈ sz, 1 ≤ s ∧ s ≤ J.at0 mos (sz.length - 1)
theorem LSz.hz {sz : List Int} (h : LSz sz) : Hz sz := by
  have h1 := h.l1
  have h4 := h.l4
  have hb := h.bd
  refine ⟨h1, h4, fun s hs => ?_, ?_⟩
  · have := hb s hs
    have h2 : ∀ j : Nat, j < 4 → J.at0 mos j ≤ 60 := by decide
    have := h2 (sz.length - 1) (by omega)
    omega
  · match sz, h1, h4, hb with
    | [a], _, _, hb =>
      have := hb a (by simp)
      have e : J.at0 mos ([a].length - 1) = 60 := rfl
      rw [e] at this
      simp only [J.prod1, List.foldl_cons, List.foldl_nil]
      omega
    | [a, b], _, _, hb =>
      have h1 := hb a (by simp)
      have h2 := hb b (by simp)
      have e : J.at0 mos ([a, b].length - 1) = 11 := rfl
      rw [e] at h1 h2
      simp only [J.prod1, List.foldl_cons, List.foldl_nil]
      have : (a + 1) * (b + 1) ≤ 12 * 12 := Int.mul_le_mul (by omega) (by omega) (by omega) (by omega)
      rw [Int.one_mul]; omega
    | [a, b, c], _, _, hb =>
      have h1 := hb a (by simp)
      have h2 := hb b (by simp)
      have h3 := hb c (by simp)
      have e : J.at0 mos ([a, b, c].length - 1) = 4 := rfl
      rw [e] at h1 h2 h3
      simp only [J.prod1, List.foldl_cons, List.foldl_nil]
      have m1 : (a + 1) * (b + 1) ≤ 5 * 5 := Int.mul_le_mul (by omega) (by omega) (by omega) (by omega)
      have m2 : (a + 1) * (b + 1) * (c + 1) ≤ 25 * 5 := Int.mul_le_mul m1 (by omega) (by omega) (by omega)
      rw [Int.one_mul]; omega
    | [a, b, c, d], _, _, hb =>
      have h1 := hb a (by simp)
      have h2 := hb b (by simp)
      have h3 := hb c (by simp)
      have h4 := hb d (by simp)
      have e : J.at0 mos ([a, b, c, d].length - 1) = 2 := rfl
      rw [e] at h1 h2 h3 h4
      simp only [J.prod1, List.foldl_cons, List.foldl_nil]
      have m1 : (a + 1) * (b + 1) ≤ 3 * 3 := Int.mul_le_mul (by omega) (by omega) (by omega) (by omega)
      have m2 : (a + 1) * (b + 1) * (c + 1) ≤ 9 * 3 := Int.mul_le_mul m1 (by omega) (by omega) (by omega)
      have m3 : (a + 1) * (b + 1) * (c + 1) * (d + 1) ≤ 27 * 3 := Int.mul_le_mul m2 (by omega) (by omega) (by omega)
      rw [Int.one_mul]; omega
def mvT : J.Mv → List Int
  | .pour a b => [0, a, b]
  | .fill a => [1, a, 0]
  | .emp a => [2, a, 0]
section
variable {P : Program} {w : World} {K : PySem.W.Frag} {mg : Str → Option Value} {base : Heap} {CH : Addr} {Z : Cz}
def sp_cell_at (K : PySem.W.Frag) : Sp := fun vs H Q _ => ∃ (a : Addr) (ns : List Int) (k : Int), vs = [.ref a, .int k] ∧ SqL K H a (ns.map V.int) ∧ 0 ≤ k ∧ ∀ c : Int, Q (.int c) H
theorem ok_cell_at {f : Addr} {fd : FuncData} (F : Fun K "_law_cell_at" "_law_cell_at" s__law_cell_at f fd) (B : Bt mg) : FnOk P w K mg base CX0 1 f fd ["_law_script", "_law_k"] (sp_cell_at K) := by
  refine F.ok sc__law_cell_at (fun vs H Q E h => ?_) (fun cdv A outer s H vs Q E hr h => ?_)
  · obtain ⟨a, ns, k, rfl, _⟩ := h
    rfl
  · obtain ⟨a, ns, k, rfl, ha, hk, q⟩ := h
    refine ⟨_, pss_cons (ps_if (pt_cmpR op_lt (pv 1) (pe_callB call_len_seq (by rfl) B.len PySem.boot_len (pa_cons (pv 0) pa_nil)) (nomark _)) (pss_one (ps_ret (pe_ix ix_list (pv 0) (pv 1) (fun _ _ => rfl)))) pss_nil) (pss_one (ps_ret pe_int)), ?_⟩
    refine ⟨_, rfl, _, rfl, a, _, rfl, .inl ha, _, _, rfl, rfl, _, rfl, ite2 (fun hlt => ?_) (fun _ => q 0)⟩
    have hlt : k < ((ns.map V.int).length : Int) := of_decide_eq_true hlt
    rw [List.length_map] at hlt
    refine ⟨_, rfl, _, rfl, a, _, _, .int (J.at0 ns k.toNat), rfl, rfl, ha, ?_, q _⟩
    have e : ((k.toNat : Nat) : Int) = k := Int.toNat_of_nonneg hk
    rw [← e]
    exact atI_nat (getV_of (by omega))
def sp_draw : Sp := fun vs H Q _ => ∃ c k m : Int, vs = [.int c, .int k, .int m] ∧ 0 ≤ k ∧ 0 < m ∧ ∀ r H', 0 ≤ r → r < m → Same H H' → Q (.int r) H'
theorem ok_draw {f : Addr} {fd : FuncData} (F : Fun K "_law_draw" "_law_draw" s__law_draw f fd) : FnOk P w K mg base CX0 1 f fd ["_law_cell", "_law_k", "_law_many"] sp_draw := by
  refine F.ok sc__law_draw (fun vs H Q E h => ?_) (fun cdv A outer s H vs Q E hr h => ?_)
  · obtain ⟨c, k, m, rfl, _⟩ := h
    rfl
  · obtain ⟨c, k, m, rfl, hk, hm, q⟩ := h
    refine ⟨_, @pss_cons _ _ _ _ _ (@ps_set _ _ 3 "_law_primes" _ _ _ sc__law_draw.nd rfl (Or.inl rfl) (@pe_tup _ _ _ _ _ (@pa_ints _ _ prm (by decide +kernel))) rfl (.inl rfl))
      (pss_one (ps_ret (pe_op op_mod (pe_op op_mod (pe_op op_add (pe_op op_mul (pv 0) pe_int) (pe_op op_mul (pv 1) pe_int)) (pe_ix ix_tup (pv 3) (pe_op op_mod (pv 1) pe_int) (fun _ _ => rfl))) (pv 2)))), ?_⟩
    refine ⟨(by show 16 ≤ sizeLine; decide), fun t nt => ?_⟩
    have e : (((k % 16).toNat : Nat) : Int) = k % 16 := Int.toNat_of_nonneg (by omega)
    have hlt : (k % 16).toNat < 16 := by omega
    refine ⟨_, rfl, _, _, rfl, rfl, .inr ⟨by decide, by decide⟩, _, rfl, _, _, rfl, rfl, .inr ⟨by decide, by decide⟩, _, _, rfl, rfl, _, rfl, _, rfl, _, _, rfl, rfl, (by show (0 : Int) < 16; decide), t, _, _, .int (J.at0 prm (k % 16).toNat), rfl, rfl, SqT.of upd_same,
      by show atI (prm.map V.int) (k % 16) = _; rw [← e]; exact atI_nat (getV_of hlt), _, _, rfl, rfl, prm_pos _ hlt, _, rfl, _, _, rfl, rfl, hm, ?_⟩
    exact q _ _ (Int.emod_nonneg _ (by omega)) (Int.emod_lt_of_pos _ hm) (Same.new nt)
def sp_law_sizes : Sp := fun vs H Q _ => ∃ c : Int, vs = [.int c] ∧ ∀ l H' sz, Same H H' → H l = none → H' l = some (.lst (sz.map V.int)) → LSz sz → Q (.ref l) H'
theorem ok_law_sizes {f : Addr} {fd : FuncData} (F : Fun K "_law_sizes" "_law_sizes" s__law_sizes f fd) (B : Bt mg) (D : FnB P w K mg base 1 "_law_draw" ["_law_cell", "_law_k", "_law_many"] sp_draw) : FnOk P w K mg base CX0 2 f fd ["_law_cell"] sp_law_sizes := by
  refine F.ok sc__law_sizes (fun vs H Q E h => ?_) (fun cdv A outer s H vs Q E hr h => ?_)
  · obtain ⟨c, rfl, _⟩ := h
    rfl
  · obtain ⟨c, rfl, k⟩ := h
    refine ⟨_, pss_cons (ps_set (i := 1) sc__law_sizes.nd rfl (Or.inl rfl) (pe_op op_add pe_int (pe_fn D hr (pa_cons (pv 0) (pa_cons pe_int (pa_cons pe_int pa_nil))))))
      (pss_cons (ps_set (i := 2) sc__law_sizes.nd rfl (Or.inr rfl) (pe_ix ix_tup (pe_tup (pa_ints (ns := mos) (by decide +kernel))) (pe_op op_sub (pv 1) pe_int) (fun _ _ => rfl)))
      (pss_one (ps_ret (pe_lc sc__law_sizes [0, 2] (pi_range1 (by rfl) B.range (pa_cons (pv 1) pa_nil)) (fun _ _ _ _ _ _ => ⟨pif_nil, pe_op op_add pe_int (pe_fn D hr (pa_cons (pe_op op_add (pv 1) (pe_op op_mul pe_int (pv 0))) (pa_cons (pe_op op_add pe_int (pv 0)) (pa_cons (pv 2) pa_nil))))⟩))))), ?_⟩
    refine ⟨_, rfl, c, 0, 4, rfl, by decide, by decide, fun r H1 r0 r4 s1 => ?_⟩
    obtain ⟨n, rfl⟩ : ∃ n : Nat, r = (n : Int) := ⟨r.toNat, (Int.toNat_of_nonneg r0).symm⟩
    have hn : n < 4 := by omega
    refine ⟨_, _, rfl, rfl, (by show 4 ≤ sizeLine; decide), fun t nt => ?_⟩
    have em : (1 + (n : Int)) - 1 = (n : Int) := by omega
    refine ⟨_, rfl, _, _, rfl, rfl, t, _, _, .int (J.at0 mos n), rfl, rfl, SqT.of upd_same, by show atI (mos.map V.int) ((1 + (n : Int)) - 1) = _; rw [em]; exact atI_nat (getV_of hn), ?_⟩
    have s2 : Same H (upd H1 t (.tup (mos.map V.int))) := s1.lay nt
    have hmo : ∀ j : Nat, j < 4 → 0 < J.at0 mos j := by decide
    refine ⟨_, rfl, 1 + (n : Int), rfl, by omega, by omega, ?_⟩
    have en : (1 + (n : Int)).toNat = n + 1 := by omega
    rw [en]
    refine lc_rangeN (n := n + 1) (fun i ys H' => Same (upd H1 t (.tup (mos.map V.int))) H' ∧ ∃ sz : List Int, ys = sz.map V.int ∧ sz.length = i ∧ ∀ s ∈ sz, 1 ≤ s ∧ s ≤ J.at0 mos n) ⟨Same.refl _, [], rfl, rfl, by simp⟩ (small1000 (by omega))
      (fun i ys H' ⟨_, sz, e, l, _⟩ => by rw [e, List.length_map, l]; exact Nat.le_refl _) ?_ ?_
    · rintro i ys H2 hi ⟨s3, sz, rfl, hl, hb⟩
      refine tYes_of ⟨_, rfl, _, rfl, _, _, rfl, rfl, .inl ⟨by decide, by decide⟩, _, _, rfl, rfl, _, rfl, _, _, rfl, rfl, _, rfl, _, _, _, rfl, by omega, hmo n hn, fun r' H3 r0' r4' s4 => ?_⟩
      refine ⟨_, _, rfl, rfl, s3.trans s4, sz ++ [1 + r'], ?_, ?_, ?_⟩
      · rw [List.map_append]; rfl
      · simp [hl]
      · intro s hs
        rcases List.mem_append.mp hs with h | h
        · exact hb s h
        · have e : s = 1 + r' := by simpa using h
          omega
    · rintro ys H2 ⟨s3, sz, rfl, hl, hb⟩ D nD
      refine k D _ sz ((s2.trans s3).lay nD) ((s2.trans s3).free nD) upd_same ⟨by omega, by omega, fun s hs => ?_⟩
      rw [hl]; exact hb s hs
def sp_law_state : Sp := fun vs H Q _ => ∃ (c : Int) (l : Addr) (sz : List Int), vs = [.int c, .ref l] ∧ H l = some (.lst (sz.map V.int)) ∧ sz.length ≤ 4 ∧ (∀ s ∈ sz, 0 ≤ s) ∧ ∀ t H' st, Same H H' → H' t = some (.tup (st.map V.int)) → J.IsSt sz st → Q (.ref t) H'
theorem at0_snoc (l : List Int) (v : Int) (j : Nat) : J.at0 (l ++ [v]) j = if j = l.length then v else J.at0 l j := by
  unfold J.at0
  rw [List.getD_eq_getElem?_getD, List.getD_eq_getElem?_getD, List.getElem?_append]
  by_cases h : j < l.length
  · rw [if_pos h, if_neg (by omega)]
  · rw [if_neg h]
    by_cases h2 : j = l.length
    · rw [if_pos h2, h2]; simp
    · rw [if_neg h2, List.getElem?_eq_none_iff.mpr (by simp; omega), List.getElem?_eq_none_iff.mpr (by omega)]
theorem ok_law_state {f : Addr} {fd : FuncData} (F : Fun K "_law_state" "_law_state" s__law_state f fd) (B : Bt mg) (D : FnB P w K mg base 1 "_law_draw" ["_law_cell", "_law_k", "_law_many"] sp_draw) : FnOk P w K mg base CX0 2 f fd ["_law_cell", "_law_sizes_here"] sp_law_state := by
  refine F.ok sc__law_state (fun vs H Q E h => ?_) (fun cdv A outer s H vs Q E hr h => ?_)
  · obtain ⟨c, l, sz, rfl, _⟩ := h
    rfl
  · obtain ⟨c, l, sz, rfl, hl, h4, hnn, k⟩ := h
    refine ⟨_, pss_cons (ps_set (i := 2) sc__law_state.nd rfl (Or.inl rfl) (pe_lst pa_nil))
      (pss_cons (ps_for PassesOwn.never rfl (pi_range1 (by rfl) B.range (pa_cons (pe_callB call_len_seq (by rfl) B.len PySem.boot_len (pa_cons (pv 1) pa_nil)) pa_nil)) (pg_name (i := 3) sc__law_state.nd rfl (Or.inl rfl))
        (pss_cons (ps_set (i := 4) sc__law_state.nd rfl (Or.inl rfl) (pe_fn D hr (pa_cons (pe_op op_add (pv 0) (pe_op op_mul pe_int (pv 3))) (pa_cons (pe_op op_add pe_int (pv 3)) (pa_cons pe_int pa_nil)))))
        (pss_one (ps_expr (pe_append (pv 2) (pe_ix ix_tup (pe_tup (pa_cons pe_int (pa_cons (pe_ix ix_list (pv 1) (pv 3) (fun _ _ => rfl)) (pa_cons (pe_fn D hr (pa_cons (pv 0) (pa_cons (pe_op op_add pe_int (pv 3)) (pa_cons (pe_op op_add (pe_ix ix_list (pv 1) (pv 3) (fun _ _ => rfl)) pe_int) pa_nil)))) (pa_cons pe_int pa_nil))))) (pv 4) (fun _ _ => rfl)))))))
      (pss_one (ps_ret (pe_callTy call_tuple_of (by rfl) B.tuple bt_tuple (pa_cons (pv 2) pa_nil))))), ?_⟩
    refine ⟨(by show 0 ≤ sizeLine; decide), fun r nr => ?_⟩
    have s1 : Same H (upd H r (.lst [])) := Same.new nr
    refine ⟨_, rfl, l, _, rfl, .inl (SqL.of (s1 _ _ hl)), ((sz.length : Nat) : Int), (by rw [List.length_map]), by omega, by omega, for_rangeN (n := sz.length) (fun i σ H' => ∃ st v3 v4, σ = [some (.int c), some (.ref l), some (.ref r), v3, v4] ∧ Same H H' ∧ H' r = some (.lst (st.map V.int)) ∧ st.length = i ∧ ∀ j, j < i → 0 ≤ J.at0 st j ∧ J.at0 st j ≤ J.at0 sz j)
      ⟨[], none, none, rfl, s1, upd_same, rfl, fun j hj => absurd hj (Nat.not_lt_zero _)⟩ ?_ ?_⟩
    · rintro i σ H1 hi ⟨st, v3, v4, rfl, s2, e2, hst, hb⟩
      refine ⟨_, rfl, _, rfl, _, _, rfl, rfl, .inl ⟨by decide, by decide⟩, _, _, rfl, rfl, _, rfl, _, _, rfl, rfl, _, _, _, rfl, by omega, by decide, fun kd H2 k0 k4 s3 => ?_⟩
      have hli := s3 _ _ (s2 _ _ hl)
      have hz := hnn _ (List.mem_of_getElem? (get_of hi))
      refine ⟨_, rfl, .inl ⟨rfl, _, SqL.of (s3 _ _ e2)⟩, _, rfl, _, rfl, l, _, _, _, rfl, rfl, SqL.of hli, atI_nat (getV_of hi), ?_⟩
      refine ⟨_, rfl, _, rfl, _, _, rfl, rfl, _, rfl, _, rfl, l, _, _, _, rfl, rfl, SqL.of hli, atI_nat (getV_of hi), _, _, rfl, rfl, _, _, _, rfl, by omega, by omega, fun d H3 d0 d4 s4 => ?_⟩
      refine ⟨(by show 4 ≤ sizeLine; decide), fun t nt => ?_⟩
      obtain ⟨n, rfl⟩ : ∃ n : Nat, kd = (n : Int) := ⟨kd.toNat, (Int.toNat_of_nonneg k0).symm⟩
      have hn : n < 4 := by omega
      refine ⟨_, rfl, t, _, _, .int (J.at0 [0, J.at0 sz i, d, 0] n), rfl, rfl, SqT.of upd_same, atI_nat (getV_of (l := [0, J.at0 sz i, d, 0]) hn), ?_⟩
      have s5 : Same H2 (upd H3 t (.tup ([0, J.at0 sz i, d, 0].map V.int))) := s4.lay nt
      refine ⟨r, _, _, rfl, rfl, s5 _ _ (s3 _ _ e2), small1000 (by rw [List.length_map]; omega), ?_⟩
      refine ⟨st ++ [J.at0 [0, J.at0 sz i, d, 0] n], _, _, rfl, ((s2.trans s3).trans s5).put nr, ?_, by simp [hst], fun j hj => ?_⟩
      · rw [upd_same, List.map_append]; rfl
      · rw [at0_snoc]
        by_cases hj' : j = st.length
        · rw [if_pos hj', hj', hst]
          match n, hn with
          | 0, _ => exact ⟨Int.le_refl 0, hz⟩
          | 1, _ => exact ⟨hz, Int.le_refl _⟩
          | 2, _ => exact ⟨d0, Int.lt_add_one_iff.mp d4⟩
          | 3, _ => exact ⟨Int.le_refl 0, hz⟩
        · rw [if_neg hj']
          exact hb j (by omega)
    · rintro σ H1 ⟨st, v3, v4, rfl, s2, e2, hst, hb⟩
      refine ⟨_, rfl, r, _, rfl, .inl ⟨SqL.of e2, fun t nt => k t _ st (s2.lay nt) upd_same ⟨hst, hb⟩⟩⟩
end
section
variable {P : Program} {w : World} {K : PySem.W.Frag} {mg : Str → Option Value} {base : Heap} {CH : Addr} {Z : Cz}
def sp_all_moves : Sp := fun vs H Q _ => ∃ (l : Addr) (sz : List Int) (tap : Bool), vs = [.ref l, .bl tap] ∧ H l = some (.lst (sz.map V.int)) ∧ sz.length ≤ 4 ∧ ∀ r H' xs, Same H H' → H r = none → H' r = some (.lst xs) → Paired (isTI H') xs ((J.moves sz.length tap).map mvT) → Q (.ref r) H'
/-- one comprehension of all jugs -/
theorem ok_all_moves {f : Addr} {fd : FuncData} (F : Fun K "_law_all_moves" "_law_all_moves" s__law_all_moves f fd) (B : Bt mg) : FnOk P w K mg base CX0 1 f fd ["_law_sizes_here", "_law_tap"] sp_all_moves := by
  refine F.ok sc__law_all_moves (fun vs H Q E h => ?_) (fun cdv A outer s H vs Q E hr h => ?_)
  · obtain ⟨l, sz, tap, rfl, _⟩ := h
    rfl
  · obtain ⟨l, sz, tap, rfl, hl, h4, k⟩ := h
    refine ⟨_, pss_cons (ps_set (i := 2) sc__law_all_moves.nd rfl (Or.inl rfl) (pe_callTy (call_list_rng rfl) (by rfl) B.list bt_list (pa_cons (pe_callTy call_rangeR (by rfl) B.range bt_range (pa_cons (pe_callB call_len_seq (by rfl) B.len PySem.boot_len (pa_cons (pv 0) pa_nil)) pa_nil)) pa_nil)))
      (pss_cons (ps_set (i := 3) sc__law_all_moves.nd rfl (Or.inl rfl) (pe_lst pa_nil))
      (pss_cons (ps_for PassesOwn.never rfl (pi_list (pv 2)) (pg_name (i := 4) sc__law_all_moves.nd rfl (Or.inr rfl))
        (pss_one (ps_set (i := 3) sc__law_all_moves.nd rfl (Or.inl rfl) (pe_op op_cat (pv 3) (pe_lc sc__law_all_moves [4] (pi_list (pv 2)) (fun _ _ _ _ _ _ => ⟨pif_one (pt_cmpR op_ne (pv 0) (pv 1) (nomark _)), pe_tup (pa_cons pe_int (pa_cons (pv 1) (pa_cons (pv 0) pa_nil)))⟩))))))
      (pss_cons (ps_if (pt_val (pv 1)) (pss_one (ps_set (i := 3) sc__law_all_moves.nd rfl (Or.inl rfl) (pe_op op_cat (pe_op op_cat (pv 3) (pe_lc sc__law_all_moves [] (pi_list (pv 2)) (fun _ _ _ _ _ _ => ⟨pif_nil, pe_tup (pa_cons pe_int (pa_cons (pv 0) (pa_cons pe_int pa_nil)))⟩)))
          (pe_lc sc__law_all_moves [] (pi_list (pv 2)) (fun _ _ _ _ _ _ => ⟨pif_nil, pe_tup (pa_cons pe_int (pa_cons (pv 0) (pa_cons pe_int pa_nil)))⟩))))) pss_nil)
      (pss_one (ps_ret (pv 3)))))), ?_⟩
    have hjl : ∀ n : Nat, ((List.range n).map fun (k : Nat) => V.int (k : Int)).length = n := fun n => by simp
    have hjg : ∀ (n i : Nat) (x : V), ((List.range n).map fun (k : Nat) => V.int (k : Int))[i]? = some x → i < n ∧ x = .int (i : Int) := fun n i x e => by
      rw [List.getElem?_map] at e
      by_cases hi : i < n
      · rw [List.getElem?_range hi] at e
        exact ⟨hi, (Option.some.inj e).symm⟩
      · rw [List.getElem?_eq_none_iff.mpr (by simp; omega)] at e
        cases e
    refine ⟨_, rfl, l, _, rfl, .inl (SqL.of hl), _, rfl, fun g ng => ?_⟩
    rw [List.length_map]
    refine ⟨g, _, rfl, upd_same, by omega, by omega, fun j nj => ?_⟩
    rw [Int.toNat_natCast]
    have s1 : Same H (upd (upd H g (.rng 0 sz.length)) j (.lst ((List.range sz.length).map fun (k : Nat) => V.int (k : Int)))) := (Same.new ng).lay nj
    refine ⟨(by show 0 ≤ sizeLine; decide), fun r nr => ?_⟩
    have s2 := s1.lay (o := .lst []) nr
    have ej : (upd (upd (upd H g (.rng 0 sz.length)) j (.lst ((List.range sz.length).map fun (k : Nat) => V.int (k : Int)))) r (.lst [])) j = some (.lst ((List.range sz.length).map fun (k : Nat) => V.int (k : Int))) := (Same.new nr) _ _ upd_same
    generalize hH0 : upd (upd (upd H g (.rng 0 sz.length)) j (.lst ((List.range sz.length).map fun (k : Nat) => V.int (k : Int)))) r (.lst []) = H0 at s2 ej ⊢
    have er : H0 r = some (.lst []) := by rw [← hH0]; exact upd_same
    refine ⟨_, rfl, j, rfl, ⟨_, SqL.of ej⟩, for_list (K := K) (a := j) (xs := (List.range sz.length).map fun (k : Nat) => V.int (k : Int)) (fun i σ H' => ∃ b xs v4, σ = [some (.ref l), some (.bl tap), some (.ref j), some (.ref b), v4] ∧ Same H0 H' ∧ H b = none ∧ H' b = some (.lst xs) ∧ Paired (isTI H') xs (((List.range i).flatMap (row sz.length)).map mvT))
      ⟨r, [], none, rfl, Same.refl _, s1.free nr, er, .nil⟩ (fun i σ H' _ ⟨_, _, _, _, s3, _⟩ => SqL.of (s3 _ _ ej)) ?_ ?_⟩
    · rintro i x σ H1 hx ⟨b, xs, v4, rfl, s3, nb, eb, pb⟩
      obtain ⟨hi, rfl⟩ := hjg _ _ _ hx
      refine ⟨_, rfl, _, rfl, j, rfl, ⟨_, SqL.of (s3 _ _ ej)⟩, lc_list (xs := (List.range sz.length).map fun (k : Nat) => V.int (k : Int)) (fun m ys H' => Same H1 H' ∧ ys.length ≤ m ∧ Paired (isTI H') ys ((rowTo i m).map mvT)) ⟨Same.refl _, Nat.le_refl _, .nil⟩ (small1000 (by rw [hjl]; omega)) (fun m ys H' ⟨_, q, _⟩ => q)
        (fun m ys H' _ ⟨s4, _⟩ => SqL.of (s4 _ _ (s3 _ _ ej))) ?_ ?_⟩
      · rintro m y ys H2 hy ⟨s4, l4, p4⟩
        obtain ⟨hm, rfl⟩ := hjg _ _ _ hy
        refine ⟨_, rfl, _, rfl, rfl, _, rfl, ?_⟩
        by_cases hmi : m = i
        · subst hmi
          rw [decide_eq_true rfl]
          refine iteF ⟨s4, by omega, ?_⟩
          rw [rowTo_eq, if_pos rfl, List.append_nil]
          exact p4
        · rw [decide_eq_false (by simp; omega)]
          refine iteT ⟨_, rfl, _, rfl, (by show 3 ≤ sizeLine; decide), fun t nt => ⟨s4.lay nt, by simp; omega, ?_⟩⟩
          rw [rowTo_eq, if_neg hmi, List.map_append]
          exact Paired.snocP (pt_fix p4 (Fix.of (Same.new nt))) ⟨t, rfl, upd_same⟩
      · rintro ys H2 ⟨s4, l4, p4⟩ D nD
        have s5 : Same H2 (upd H2 D (.lst ys)) := Same.new nD
        have lx : xs.length ≤ 16 := by
          rw [pb.length, List.length_map]
          have h1 := rows_len sz.length i
          have h2 : i * sz.length ≤ 4 * 4 := Nat.mul_le_mul (by omega) h4
          omega
        rw [hjl] at l4
        refine ⟨b, D, xs, ys, rfl, rfl, s5 _ _ (s4 _ _ eb), upd_same, Nat.le_of_lt (small1000 (by omega)), fun p np => ?_⟩
        have s6 : Same (upd H2 D (.lst ys)) (upd (upd H2 D (.lst ys)) p (.lst (xs ++ ys))) := Same.new np
        have s7 := (s3.trans s4).trans (s5.trans s6)
        refine ⟨p, _, _, rfl, s7, (s2.trans ((s3.trans s4).trans s5)).free np, upd_same, ?_⟩
        rw [List.range_succ, List.flatMap_append, List.map_append]
        have e : (List.flatMap (row sz.length) [i]) = rowTo i sz.length := by simp [row, rowTo]
        rw [e]
        rw [hjl] at p4
        exact Paired.appP (pt_fix pb (Fix.of (s4.trans (s5.trans s6)))) (pt_fix p4 (Fix.of (s5.trans s6)))
    · rintro σ H1 ⟨b, xs, v4, rfl, s3, nb, eb, pb⟩
      rw [hjl] at pb
      refine ⟨_, rfl, _, rfl, ?_⟩
      have lx : xs.length ≤ 16 := by
        rw [pb.length, List.length_map]
        have h1 := rows_len sz.length sz.length
        have h2 : sz.length * sz.length ≤ 4 * 4 := Nat.mul_le_mul h4 h4
        omega
      cases tap with
      | false =>
        refine iteF ⟨_, rfl, k b H1 xs (s2.trans s3) nb eb ?_⟩
        have e : J.moves sz.length false = J.pours sz.length := by simp [J.moves]
        rw [e]; exact pb
      | true =>
        refine iteT ?_
        refine ⟨_, rfl, _, rfl, j, rfl, ⟨_, SqL.of (s3 _ _ ej)⟩, lc_list (xs := (List.range sz.length).map fun (k : Nat) => V.int (k : Int)) (fun m ys H' => Same H1 H' ∧ ys.length ≤ m ∧ Paired (isTI H') ys (((List.range m).map J.Mv.fill).map mvT)) ⟨Same.refl _, Nat.le_refl _, .nil⟩ (small1000 (by rw [hjl]; omega)) (fun m ys H' ⟨_, q, _⟩ => q)
          (fun m ys H' _ ⟨s4, _⟩ => SqL.of (s4 _ _ (s3 _ _ ej))) ?_ ?_⟩
        · rintro m y ys H2 hy ⟨s4, l4, p4⟩
          obtain ⟨hm, rfl⟩ := hjg _ _ _ hy
          refine tYes_of ⟨_, rfl, (by show 3 ≤ sizeLine; decide), fun t nt => ⟨s4.lay nt, by simp; omega, ?_⟩⟩
          rw [List.range_succ, List.map_append, List.map_append]
          exact Paired.snocP (pt_fix p4 (Fix.of (Same.new nt))) ⟨t, rfl, upd_same⟩
        · rintro ys H2 ⟨s4, l4, p4⟩ D nD
          rw [hjl] at l4 p4
          have s5 : Same H2 (upd H2 D (.lst ys)) := Same.new nD
          refine ⟨b, D, xs, ys, rfl, rfl, s5 _ _ (s4 _ _ eb), upd_same, Nat.le_of_lt (small1000 (by omega)), fun p np => ?_⟩
          have s6 : Same (upd H2 D (.lst ys)) (upd (upd H2 D (.lst ys)) p (.lst (xs ++ ys))) := Same.new np
          have s7 : Same H1 (upd (upd H2 D (.lst ys)) p (.lst (xs ++ ys))) := s4.trans (s5.trans s6)
          have p7 : Paired (isTI (upd (upd H2 D (.lst ys)) p (.lst (xs ++ ys)))) (xs ++ ys) ((J.pours sz.length ++ (List.range sz.length).map J.Mv.fill).map mvT) := by
            rw [List.map_append]
            exact Paired.appP (pt_fix pb (Fix.of s7)) (pt_fix p4 (Fix.of (s5.trans s6)))
          have e7 : (upd (upd H2 D (.lst ys)) p (.lst (xs ++ ys))) p = some (.lst (xs ++ ys)) := upd_same
          generalize hH7 : upd (upd H2 D (.lst ys)) p (.lst (xs ++ ys)) = H7 at s7 p7 e7 ⊢
          refine ⟨_, rfl, j, rfl, ⟨_, SqL.of (s7 _ _ (s3 _ _ ej))⟩, lc_list (xs := (List.range sz.length).map fun (k : Nat) => V.int (k : Int)) (fun m zs H' => Same H7 H' ∧ zs.length ≤ m ∧ Paired (isTI H') zs (((List.range m).map J.Mv.emp).map mvT)) ⟨Same.refl _, Nat.le_refl _, .nil⟩ (small1000 (by rw [hjl]; omega)) (fun m ys H' ⟨_, q, _⟩ => q)
            (fun m ys H' _ ⟨s8, _⟩ => SqL.of (s8 _ _ (s7 _ _ (s3 _ _ ej)))) ?_ ?_⟩
          · rintro m y zs H8 hy ⟨s8, l8, p8⟩
            obtain ⟨hm, rfl⟩ := hjg _ _ _ hy
            refine tYes_of ⟨_, rfl, (by show 3 ≤ sizeLine; decide), fun t nt => ⟨s8.lay nt, by simp; omega, ?_⟩⟩
            rw [List.range_succ, List.map_append, List.map_append]
            exact Paired.snocP (pt_fix p8 (Fix.of (Same.new nt))) ⟨t, rfl, upd_same⟩
          · rintro zs H8 ⟨s8, l8, p8⟩ D2 nD2
            rw [hjl] at l8 p8
            have s9 : Same H8 (upd H8 D2 (.lst zs)) := Same.new nD2
            refine ⟨p, D2, _, zs, rfl, rfl, s9 _ _ (s8 _ _ e7), upd_same, Nat.le_of_lt (small1000 (by rw [List.length_append]; omega)), fun p' np' => ?_⟩
            have s10 : Same (upd H8 D2 (.lst zs)) (upd (upd H8 D2 (.lst zs)) p' (.lst ((xs ++ ys) ++ zs))) := Same.new np'
            have sA := (s2.trans s3).trans (s7.trans (s8.trans s9))
            refine ⟨_, rfl, k p' _ _ (sA.trans s10) (sA.free np') upd_same ?_⟩
            have e : J.moves sz.length true = (J.pours sz.length ++ (List.range sz.length).map J.Mv.fill) ++ (List.range sz.length).map J.Mv.emp := by simp [J.moves]
            rw [e, List.map_append]
            exact Paired.appP (pt_fix p7 (Fix.of (s8.trans (s9.trans s10)))) (pt_fix p8 (Fix.of (s9.trans s10)))
end
/-! ### the law's own behind, by slices -/
theorem cut_put {st : List Int} {a : Nat} (ha : a < st.length) (x : Int) : cutV (st.map V.int) none (some (a : Int)) ++ [V.int x] ++ cutV (st.map V.int) (some ((a : Int) + 1)) none = (st.set a x).map V.int := by
  have e1 : HT.sIx (st.map V.int).length (st.map V.int).length (some (a : Int)) = a := by rw [HT.sIx_nat, List.length_map]; omega
  have e2 : HT.sIx (st.map V.int).length 0 (some ((a : Int) + 1)) = a + 1 := by
    rw [show ((a : Int) + 1) = ((a + 1 : Nat) : Int) by omega, HT.sIx_nat, List.length_map]; omega
  unfold cutV
  rw [e1, e2, HT.sIx_none, HT.sIx_none, List.drop_zero, Nat.sub_zero]
  rw [List.take_of_length_le (l := List.drop _ _) (by simp), ← List.map_take, ← List.map_drop]
  have : st.set a x = st.take a ++ x :: st.drop (a + 1) := by
    rw [List.set_eq_take_append_cons_drop, if_pos ha]
  rw [this, List.map_append, List.map_cons, List.append_assoc]
  rfl
theorem cut_lo {st : List Int} {a : Nat} (ha : a < st.length) : ¬ (HT.sIx (st.map V.int).length 0 none = 0 ∧ HT.sIx (st.map V.int).length (st.map V.int).length (some (a : Int)) = (st.map V.int).length) := by
  rw [HT.sIx_nat, List.length_map]; omega
theorem cut_hi {st : List Int} {a : Nat} (ha : a < st.length) : ¬ (HT.sIx (st.map V.int).length 0 (some ((a : Int) + 1)) = 0 ∧ HT.sIx (st.map V.int).length (st.map V.int).length none = (st.map V.int).length) := by
  rw [show ((a : Int) + 1) = ((a + 1 : Nat) : Int) by omega, HT.sIx_nat, List.length_map]; omega
theorem cutV_small (xs : List V) (lo hi : Option Int) (h : xs.length ≤ 8) : (cutV xs lo hi).length ≤ 8 := Nat.le_trans (cutV_length _ _ _) h
section
variable {P : Program} {w : World} {K : PySem.W.Frag} {mg : Str → Option Value} {base : Heap} {CH : Addr} {Z : Cz}
def sp_behind : Sp := fun vs H Q _ => ∃ (l a t : Addr) (sz st : List Int) (m : J.Mv) (tap : Bool), vs = [.ref l, .ref a, .ref t] ∧ H l = some (.lst (sz.map V.int)) ∧ H a = some (.tup (st.map V.int)) ∧ H t = some (.tup ((mvT m).map V.int)) ∧ J.IsSt sz st ∧ m.ok sz.length tap ∧ sz.length ≤ 4 ∧
  ∀ r H', Same H H' → H' r = some (.tup ((J.behind sz st m).map V.int)) → Q (.ref r) H'
theorem ok_behind2 {f : Addr} {fd : FuncData} (F : Fun K "_law_behind" "_law_behind" s__law_behind f fd) (B : Bt mg) : FnOk P w K mg base CX0 1 f fd ["_law_sizes_here", "_law_state_here", "_law_told"] sp_behind := by
  refine F.ok sc__law_behind (fun vs H Q E h => ?_) (fun cdv A outer s H vs Q E hr h => ?_)
  · obtain ⟨l, a, t, sz, st, m, tap, rfl, _⟩ := h
    rfl
  · obtain ⟨l, q, t, sz, st, m, tap, rfl, hl, hq, ht, hst, hok, h4, k⟩ := h
    have nd := sc__law_behind.nd
    refine ⟨_, pss_cons (ps_asg (pv 2) (pg_tup rfl (pgs_cons (pg_name (i := 3) nd rfl (Or.inl rfl)) (pgs_cons (pg_name (i := 4) nd rfl (Or.inl rfl)) (pgs_cons (pg_name (i := 5) nd rfl (Or.inl rfl)) pgs_nil)))))
      (pss_cons (ps_if (pt_cmpR op_eq (pv 3) pe_int (nomark _))
        (pss_one (ps_ret (pe_op op_catU (pe_op op_catU (pe_slice sl_tup (pv 1) po_none (po_some (pv 4))) (pe_tup (pa_cons (pe_ix ix_list (pv 0) (pv 4) (fun _ _ => rfl)) pa_nil))) (pe_slice sl_tup (pv 1) (po_some (pe_op op_add (pv 4) pe_int)) po_none)))) pss_nil)
      (pss_cons (ps_if (pt_cmpR op_eq (pv 3) pe_int (nomark _))
        (pss_one (ps_ret (pe_op op_catU (pe_op op_catU (pe_slice sl_tup (pv 1) po_none (po_some (pv 4))) (pe_tup (pa_cons pe_int pa_nil))) (pe_slice sl_tup (pv 1) (po_some (pe_op op_add (pv 4) pe_int)) po_none)))) pss_nil)
      (pss_cons (ps_set (i := 6) nd rfl (Or.inl rfl) (pe_callTy call_list_of (by rfl) B.list bt_list (pa_cons (pv 1) pa_nil)))
      (pss_cons (ps_set (i := 7) nd rfl (Or.inl rfl) (pe_callB (call_min2 rfl) (by rfl) B.min bt_min (pa_cons (pe_ix ix_list (pv 6) (pv 4) (fun _ _ => rfl)) (pa_cons (pe_op op_sub (pe_ix ix_list (pv 0) (pv 5) (fun _ _ => rfl)) (pe_ix ix_list (pv 6) (pv 5) (fun _ _ => rfl))) pa_nil))))
      (pss_cons (ps_asg (pe_op op_sub (pe_ix ix_list (pv 6) (pv 4) (fun _ _ => rfl)) (pv 7)) (pg_sub (pv 6) (pv 4) set_list))
      (pss_cons (ps_asg (pe_op op_add (pe_ix ix_list (pv 6) (pv 5) (fun _ _ => rfl)) (pv 7)) (pg_sub (pv 6) (pv 5) set_list))
      (pss_one (ps_ret (pe_callTy call_tuple_of (by rfl) B.tuple bt_tuple (pa_cons (pv 6) pa_nil)))))))))), ?_⟩
    have l8 : (st.map V.int).length ≤ 8 := by rw [List.length_map, hst.len]; omega
    have sl : (24 : Nat) ≤ sizeLine := by decide
    cases m with
    | fill a =>
      have ha : a < st.length := by rw [hst.len]; exact hok.1
      refine ⟨_, rfl, t, _, rfl, SqT.of ht, rfl, _, _, rfl, _, _, rfl, _, _, rfl, rfl, ?_⟩
      refine ⟨_, rfl, rfl, _, rfl, ?_⟩
      rw [decide_eq_true rfl]
      refine iteT ?_
      refine ⟨_, rfl, _, rfl, _, rfl, q, _, rfl, SqT.of hq, cut_lo ha, fun p1 n1 => ?_⟩
      have s1 : Same H (upd H p1 (.tup (cutV (st.map V.int) none (some (a : Int))))) := Same.new n1
      refine ⟨_, rfl, _, rfl, l, _, _, _, rfl, rfl, SqL.of (s1 _ _ hl), atI_nat (getV_of hok.1), (by show 1 ≤ sizeLine; decide), fun p2 n2 => ?_⟩
      have s2 := s1.lay (o := .tup [V.int (J.at0 sz a)]) n2
      refine ⟨p1, p2, _, _, rfl, rfl, (Same.new n2) _ _ upd_same, upd_same, by have := cutV_small (st.map V.int) none (some (a : Int)) l8; simp only [List.length_singleton]; omega, fun p3 H3 s3 e3 => ?_⟩
      have s03 := s2.trans s3
      refine ⟨_, rfl, _, rfl, _, _, rfl, rfl, _, rfl, q, _, rfl, SqT.of (s03 _ _ hq), cut_hi ha, fun p4 n4 => ?_⟩
      refine ⟨p3, p4, _, _, rfl, rfl, (Same.new n4) _ _ e3, upd_same, ?_, fun p5 H5 s5 e5 => ?_⟩
      · have h1 := cutV_small (st.map V.int) none (some (a : Int)) l8
        have h2 := cutV_small (st.map V.int) (some ((a : Int) + 1)) none l8
        simp only [List.length_append, List.length_singleton]; omega
      · exact k p5 H5 ((s03.lay n4).trans s5) (by rw [e5, cut_put ha]; rfl)
    | emp a =>
      have ha : a < st.length := by rw [hst.len]; exact hok.1
      refine ⟨_, rfl, t, _, rfl, SqT.of ht, rfl, _, _, rfl, _, _, rfl, _, _, rfl, rfl, ?_⟩
      refine ⟨_, rfl, rfl, _, rfl, ?_⟩
      rw [decide_eq_false (by simp)]
      refine iteF ?_
      refine ⟨_, rfl, rfl, _, rfl, ?_⟩
      rw [decide_eq_true rfl]
      refine iteT ?_
      refine ⟨_, rfl, _, rfl, _, rfl, q, _, rfl, SqT.of hq, cut_lo ha, fun p1 n1 => ?_⟩
      have s1 : Same H (upd H p1 (.tup (cutV (st.map V.int) none (some (a : Int))))) := Same.new n1
      refine ⟨(by show 1 ≤ sizeLine; decide), fun p2 n2 => ?_⟩
      have s2 := s1.lay (o := .tup [V.int 0]) n2
      refine ⟨p1, p2, _, _, rfl, rfl, (Same.new n2) _ _ upd_same, upd_same, by have := cutV_small (st.map V.int) none (some (a : Int)) l8; simp only [List.length_singleton]; omega, fun p3 H3 s3 e3 => ?_⟩
      have s03 := s2.trans s3
      refine ⟨_, rfl, _, rfl, _, _, rfl, rfl, _, rfl, q, _, rfl, SqT.of (s03 _ _ hq), cut_hi ha, fun p4 n4 => ?_⟩
      refine ⟨p3, p4, _, _, rfl, rfl, (Same.new n4) _ _ e3, upd_same, ?_, fun p5 H5 s5 e5 => ?_⟩
      · have h1 := cutV_small (st.map V.int) none (some (a : Int)) l8
        have h2 := cutV_small (st.map V.int) (some ((a : Int) + 1)) none l8
        simp only [List.length_append, List.length_singleton]; omega
      · exact k p5 H5 ((s03.lay n4).trans s5) (by rw [e5, cut_put ha]; rfl)
    | pour a b =>
      obtain ⟨ha', hb', hab⟩ := hok
      have ha : a < st.length := by rw [hst.len]; exact ha'
      have hb : b < st.length := by rw [hst.len]; exact hb'
      refine ⟨_, rfl, t, _, rfl, SqT.of ht, rfl, _, _, rfl, _, _, rfl, _, _, rfl, rfl, ?_⟩
      refine ⟨_, rfl, rfl, _, rfl, ?_⟩
      rw [decide_eq_false (by simp)]
      refine iteF ?_
      refine ⟨_, rfl, rfl, _, rfl, ?_⟩
      rw [decide_eq_false (by simp)]
      refine iteF ?_
      refine ⟨_, rfl, q, _, rfl, .inr (SqT.of hq), fun r nr => ?_⟩
      have s1 : Same H (upd H r (.lst (st.map V.int))) := Same.new nr
      refine ⟨_, rfl, _, rfl, r, _, _, _, rfl, rfl, SqL.of upd_same, atI_nat (getV_of ha), _, rfl, _, rfl, l, _, _, _, rfl, rfl, SqL.of (s1 _ _ hl), atI_nat (getV_of hb'), _, rfl, _, rfl, r, _, _, _, rfl, rfl, SqL.of upd_same, atI_nat (getV_of hb), _, _, rfl, rfl, _, _, rfl, ?_⟩
      refine ⟨_, rfl, _, rfl, r, _, _, _, rfl, rfl, SqL.of upd_same, atI_nat (getV_of ha), _, rfl, _, _, rfl, rfl, _, rfl, _, rfl, r, _, _, a, rfl, rfl, upd_same, ixN_of (by simpa using ha), ?_⟩
      rw [map_set_int]
      have lb2 : b < (st.set a (J.at0 st a - J.much sz st a b)).length := by simpa using hb
      refine ⟨_, rfl, _, rfl, r, _, _, _, rfl, rfl, SqL.of upd_same, atI_nat (getV_of lb2), _, rfl, _, _, rfl, rfl, _, rfl, _, rfl, r, _, _, b, rfl, rfl, upd_same, ixN_of (by simpa using hb), ?_⟩
      refine ⟨_, rfl, r, _, rfl, .inl ⟨SqL.of upd_same, fun x nx => k x _ (((s1.put nr).put nr).lay nx) ?_⟩⟩
      have e2 : J.at0 (st.set a (J.at0 st a - J.much sz st a b)) b = J.at0 st b := by rw [J.at0_set, if_neg (fun h => hab h.1)]
      rw [upd_same, map_set_int]
      show some (HO.tup (((st.set a (J.at0 st a - J.much sz st a b)).set b (J.at0 (st.set a (J.at0 st a - J.much sz st a b)) b + J.much sz st a b)).map V.int)) = _
      rw [e2]
      rfl
end
theorem pI : ∀ st : List Int, Paired isI (st.map V.int) st
  | [] => .nil
  | _ :: st => .cons rfl (pI st)
theorem toT {K : PySem.W.Frag} {H : Hp} {v : V} {st : List Int} (h : isTI H v st) : isT K H isI v st := by
  obtain ⟨a, rfl, e⟩ := h
  exact ⟨a, _, rfl, SqT.of e, pI st⟩
theorem toTs {K : PySem.W.Frag} {H : Hp} {vs : List V} {sts : List (List Int)} (h : Paired (isTI H) vs sts) : Paired (isT K H isI) vs sts := Paired.mapP h fun _ _ => toT
theorem rcL {X : Cx} {H : Hp} {a b : Addr} {s t : List Int} (ha : H a = some (.lst (s.map V.int))) (hb : H b = some (.lst (t.map V.int))) : RcD X H 20 (.ref a) (.ref b) (decide (s = t)) :=
  (EqR.lst (d := 19) EqR.int).rc _ _ s t ⟨a, _, rfl, SqL.of ha, pI s⟩ ⟨b, _, rfl, SqL.of hb, pI t⟩
theorem rcLT {X : Cx} {H : Hp} {a b : Addr} {xs ys : List V} {s t : List (List Int)} (ha : H a = some (.lst xs)) (px : Paired (isTI H) xs s) (hb : H b = some (.lst ys)) (py : Paired (isTI H) ys t) : RcD X H 20 (.ref a) (.ref b) (decide (s = t)) :=
  (EqR.lst (d := 19) (EqR.tup (d := 18) EqR.int)).rc _ _ s t ⟨a, _, rfl, SqL.of ha, toTs px⟩ ⟨b, _, rfl, SqL.of hb, toTs py⟩
/-- a statement and the rest, with what holds between them said -/
def tCut (t u : TS) : TS := fun D σ H => ∃ R : St → Hp → Prop, t { D with nx := R } σ H ∧ ∀ σ' H', R σ' H' → u D σ' H'
theorem pss_cut {X : Cx} {st : Stmt} {rest : List Stmt} {t u : TS} (h1 : PS X st t) (h2 : PSs X rest u) : PSs X (st :: rest) (tCut t u) := by
  intro pins s σ H D I ⟨R, h, hR⟩
  refine wpAny_execs_cons (thn (h1 pins s σ H { D with nx := R } I h) fun f s1 q => ?_)
  cases f with
  | next => obtain ⟨σ', H', I', q'⟩ := q; exact h2 pins s1 σ' H' D I' (hR σ' H' q')
  | ret v => exact q
  | brk => exact q
  | cont => exact q
end Jug

namespace Jug
open PySem L2
/-! ### reached, tied -/
theorem ways_le {sz st : List Int} {tap : Bool} (hz : Hz sz) (hst : J.IsSt sz st) : (J.ways sz (J.moves sz.length tap) st).length ≤ 2000 := by
  have h1 := J.run_le (J.good_moves (tap := tap) hz.nn) hst (J.states sz).length
  have h2 := hz.states_le
  exact Nat.le_trans h1 (by omega)
def wst (sz : List Int) (tap : Bool) (st : List Int) : List (List Int) := (J.ways sz (J.moves sz.length tap) st).map (·.1)
theorem wst_st {sz st t : List Int} {tap : Bool} (hz : Hz sz) (hst : J.IsSt sz st) (h : t ∈ wst sz tap st) : J.IsSt sz t := by
  obtain ⟨x, hx, rfl⟩ := List.mem_map.mp h
  exact (J.ways_inv (J.good_moves (tap := tap) hz.nn) hst).sts x hx
theorem wst_ne {sz st : List Int} {tap : Bool} (hz : Hz sz) (hst : J.IsSt sz st) : ∀ t ∈ wst sz tap st, t ≠ [] := fun t ht e => by
  have := (wst_st hz hst ht).len
  have h1 := hz.l1
  rw [e] at this
  simp at this
  omega
theorem wst_self {sz st : List Int} {tap : Bool} (hz : Hz sz) (hst : J.IsSt sz st) : st ∈ wst sz tap st := by
  have h := (J.ways_inv (J.good_moves (tap := tap) hz.nn) hst).hd
  exact List.mem_map.mpr ⟨_, List.mem_of_getElem? h, rfl⟩
theorem wst_len {sz st : List Int} {tap : Bool} (hz : Hz sz) (hst : J.IsSt sz st) : (wst sz tap st).length ≤ 2000 := by
  unfold wst; rw [List.length_map]; exact ways_le hz hst
/-- in order -/
noncomputable def due (sz : List Int) (tap : Bool) (st : List Int) : List (List Int) := srtB HT.lexLt [] (wst sz tap st)
theorem due_mem {sz st t : List Int} {tap : Bool} : t ∈ due sz tap st ↔ t ∈ wst sz tap st := (srtB_perm _ _ _).mem_iff
theorem due_len {sz st : List Int} {tap : Bool} : (due sz tap st).length = (wst sz tap st).length := (srtB_perm _ _ _).length_eq
section
variable {X : Cx}
theorem op_isB : OpR X (compareOp .Is) (fun x y H Q => ∃ b c, x = .bl b ∧ y = .bl c ∧ Q (.bl (b == c)) H) := by
  intro pins s σ H x y v u Q I rx ry h
  obtain ⟨b, c, rfl, rfl, q⟩ := h
  cases rx
  cases ry
  exact PyProof.Rows.is_bool (fin_bl I q rfl)
end
section
variable {P : Program} {w : World} {K : PySem.W.Frag} {mg : Str → Option Value} {base : Heap} {CH : Addr} {Z : Cz}
def sp_reached (CH : Addr) : Sp := fun vs H Q _ => ∃ p a sz tap st, vs = [.ref p, .ref a] ∧ House CH H p sz tap ∧ Hz sz ∧ H a = some (.tup (st.map V.int)) ∧ J.IsSt sz st ∧
  ∀ (l : Addr) (H' : Hp) (ys : List V), Same H H' → H l = none → H' l = some (.lst ys) → Paired (isTI H') ys (due sz tap st) → Q (.ref l) H'
theorem ok_reached {f : Addr} {fd : FuncData} (F : Fun K "reached" "reached" s_reached f fd) (hs : mg "sorted" = none) (WY : FnB P w K mg base 8 "ways_from" ["house", "state"] (sp_ways Z CH)) : FnOk P w K mg base CX0 9 f fd ["house", "state"] (sp_reached CH) := by
  refine F.ok sc_reached (fun vs H Q E h => ?_) (fun cdv A outer s H vs Q E hr h => ?_)
  · obtain ⟨p, a, sz, tap, st, rfl, _⟩ := h
    rfl
  · obtain ⟨p, a, sz, tap, st, rfl, hh, hz, ha, hst, k⟩ := h
    refine ⟨_, pss_one (ps_ret (pe_callB (call_sortDT rfl) (by rfl) hs bt_sorted (pa_cons (pe_fn WY hr (pa_cons (pv 0) (pa_cons (pv 1) pa_nil))) pa_nil))), ?_⟩
    refine ⟨_, rfl, _, rfl, p, a, sz, tap, st, rfl, hh, hz, ha, hst, fun d H2 kvs s2 nd e2 wd => ?_⟩
    have lk := wd.length
    have lw := ways_le (tap := tap) hz hst
    refine .mk d kvs (wst sz tap st) rfl (.inl e2) (by rw [wd.keys]; unfold wst; rw [List.map_map]; rfl) (by omega) (wst_ne hz hst) fun l ys nl py => ?_
    have s3 : Same H2 (upd H2 l (.lst ys)) := Same.new nl
    exact k l _ ys (s2.trans s3) (s2.free nl) upd_same (pt_fix py (Fix.of s3))
def sp_tied (CH : Addr) : Sp := fun vs H Q _ => ∃ p a b sz tap st st', vs = [.ref p, .ref a, .ref b] ∧ House CH H p sz tap ∧ Hz sz ∧ H a = some (.tup (st.map V.int)) ∧ J.IsSt sz st ∧ H b = some (.tup (st'.map V.int)) ∧ J.IsSt sz st' ∧
  ∀ H' : Hp, Same H H' → Q (.bl (decide (st' ∈ wst sz tap st) && decide (st ∈ wst sz tap st'))) H'
theorem ok_tied {f : Addr} {fd : FuncData} (F : Fun K "tied" "tied" s_tied f fd) (B : Bt mg) (N : FnB P w K mg base 2 "held_in" ["house", "state"] (sp_held_in CH)) (WY : FnB P w K mg base 8 "ways_from" ["house", "state"] (sp_ways Z CH)) : FnOk P w K mg base CX0 9 f fd ["house", "one", "other"] (sp_tied CH) := by
  refine F.ok sc_tied (fun vs H Q E h => ?_) (fun cdv A outer s H vs Q E hr h => ?_)
  · obtain ⟨p, a, b, sz, tap, st, st', rfl, _⟩ := h
    rfl
  · obtain ⟨p, a, b, sz, tap, st, st', rfl, hh, hz, ha, hst, hb, hst', k⟩ := h
    have nd := sc_tied.nd
    have hr2 : Room 2 _ := hr.mono (by decide)
    have hu : _ + 1 < cLine := Nat.lt_of_le_of_lt (Nat.add_le_add_left (by decide : 1 ≤ 64) _) hr.units
    refine ⟨_, pss_cons (ps_set (i := 3) nd rfl (Or.inl rfl) (pe_callTy call_tuple_of (by rfl) B.tuple bt_tuple (pa_cons (pe_fn N hr2 (pa_cons (pv 0) (pa_cons (pv 1) pa_nil))) pa_nil)))
      (pss_cons (ps_set (i := 4) nd rfl (Or.inl rfl) (pe_callTy call_tuple_of (by rfl) B.tuple bt_tuple (pa_cons (pe_fn N hr2 (pa_cons (pv 0) (pa_cons (pv 2) pa_nil))) pa_nil)))
      (pss_one (ps_ret (pe_and (pe_cmp (pc_din hu (pv 4) (pe_fn WY hr (pa_cons (pv 0) (pa_cons (pv 3) pa_nil)))) rfl) (pe_one (pe_cmp (pc_din hu (pv 3) (pe_fn WY hr (pa_cons (pv 0) (pa_cons (pv 4) pa_nil)))) rfl)))))), ?_⟩
    refine ⟨_, rfl, _, rfl, p, sz, tap, a, st, rfl, hh, ha, hst, fun y H1 s1 ny ey => ⟨y, _, rfl, .inl ⟨SqL.of ey, fun t nt => ?_⟩⟩⟩
    have s2 : Same H (upd H1 t (.tup (st.map V.int))) := s1.lay nt
    refine ⟨_, rfl, _, rfl, p, sz, tap, b, st', rfl, hh.mono s2, s2 _ _ hb, hst', fun y' H3 s3 ny' ey' => ⟨y', _, rfl, .inl ⟨SqL.of ey', fun t' nt' => ?_⟩⟩⟩
    have s4 : Same (upd H1 t (.tup (st.map V.int))) (upd H3 t' (.tup (st'.map V.int))) := s3.lay nt'
    have et : (upd H3 t' (.tup (st'.map V.int))) t = some (.tup (st.map V.int)) := s4 _ _ upd_same
    have et' : (upd H3 t' (.tup (st'.map V.int))) t' = some (.tup (st'.map V.int)) := upd_same
    have s5 : Same H (upd H3 t' (.tup (st'.map V.int))) := s2.trans s4
    generalize upd H3 t' (.tup (st'.map V.int)) = H5 at et et' s5 ⊢
    refine ⟨_, rfl, _, rfl, _, rfl, p, t, sz, tap, st, rfl, hh.mono s5, hz, et, hst, fun d H6 kvs s6 nd6 e6 wd => ⟨d, _, rfl, DGet.t (k := kOf st') e6 (by rw [kOf_map]; exact s6 _ _ et'), ?_⟩⟩
    rw [wd.has]
    have e1 : decide (st' ∈ (J.ways sz (J.moves sz.length tap) st).map (·.1)) = decide (st' ∈ wst sz tap st) := rfl
    rw [e1]
    cases h1 : decide (st' ∈ wst sz tap st) with
    | false =>
      rw [h1, Bool.false_and] at k
      exact ⟨_, rfl, iteF (k H6 (s5.trans s6))⟩
    | true =>
      rw [h1, Bool.true_and] at k
      refine ⟨_, rfl, iteT ?_⟩
      refine ⟨_, rfl, _, rfl, _, rfl, p, t', sz, tap, st', rfl, hh.mono (s5.trans s6), hz, s6 _ _ et', hst', fun d' H7 kvs' s7 nd7 e7 wd' => ⟨d', _, rfl, DGet.t (k := kOf st) e7 (by rw [kOf_map]; exact s7 _ _ (s6 _ _ et)), ?_⟩⟩
      rw [wd'.has]
      exact k H7 ((s5.trans s6).trans s7)
end
end Jug

namespace Jug
open PySem L2
/-! ### the law's own walk -/
theorem keys_has {kvs : List (List Key × V)} {W : List J.Way} (h : kvs.map (·.1) = W.map fun x => kOf x.1) (y : List Int) : (valV kvs (kOf y)).isSome = decide (y ∈ W.map (·.1)) := by
  rw [← valV_any, Bool.eq_iff_iff]
  simp only [List.any_eq_true, decide_eq_true_iff]
  constructor
  · rintro ⟨kv, h1, h2⟩
    have : kOf y ∈ kvs.map (·.1) := List.mem_map.mpr ⟨kv, h1, h2⟩
    rw [h] at this
    obtain ⟨x, h3, h4⟩ := List.mem_map.mp this
    exact List.mem_map.mpr ⟨x, h3, kOf_inj h4⟩
  · intro hy
    obtain ⟨x, h3, h4⟩ := List.mem_map.mp hy
    have : kOf y ∈ kvs.map (·.1) := by rw [h]; exact List.mem_map.mpr ⟨x, h3, by rw [h4]⟩
    obtain ⟨kv, h1, h2⟩ := List.mem_map.mp this
    exact ⟨kv, h1, h2⟩
/-- the law's walk so far -/
def LW (Hb H' : Hp) (d rw : Addr) (W : List J.Way) : Prop := ∃ kvs rs, Same Hb H' ∧ H' d = some (.dT kvs) ∧ H' rw = some (.lst rs) ∧ Paired (isTI H') rs (W.map (·.1)) ∧ kvs.map (·.1) = W.map fun x => kOf x.1
theorem LW.same {Hb H' H'' : Hp} {d rw : Addr} {W : List J.Way} (h : LW Hb H' d rw W) (s : Same H' H'') : LW Hb H'' d rw W := by
  obtain ⟨kvs, rs, s0, e1, e2, p, wd⟩ := h
  exact ⟨kvs, rs, s0.trans s, s _ _ e1, s _ _ e2, pt_fix p (Fix.of s), wd⟩
section
variable {P : Program} {w : World} {K : PySem.W.Frag} {mg : Str → Option Value} {base : Heap} {CH : Addr} {Z : Cz}
def sp_lreached : Sp := fun vs H Q _ => ∃ l a sz tap st, vs = [.ref l, .bl tap, .ref a] ∧ H l = some (.lst (sz.map V.int)) ∧ Hz sz ∧ H a = some (.tup (st.map V.int)) ∧ J.IsSt sz st ∧
  ∀ (r : Addr) (H' : Hp) (ys : List V), Same H H' → H r = none → H' r = some (.lst ys) → Paired (isTI H') ys (due sz tap st) → Q (.ref r) H'
theorem ok_lreached {f : Addr} {fd : FuncData} (F : Fun K "_law_reached" "_law_reached" s__law_reached f fd) (B : Bt mg) (hs : mg "sorted" = none) (AM : FnB P w K mg base 1 "_law_all_moves" ["_law_sizes_here", "_law_tap"] sp_all_moves) (BH : FnB P w K mg base 1 "_law_behind" ["_law_sizes_here", "_law_state_here", "_law_told"] sp_behind) :
    FnOk P w K mg base CX0 2 f fd ["_law_sizes_here", "_law_tap", "_law_state_here"] sp_lreached := by
  refine F.ok sc__law_reached (fun vs H Q E h => ?_) (fun cdv A outer s H vs Q E hr h => ?_)
  · obtain ⟨l, a, sz, tap, st, rfl, _⟩ := h
    rfl
  · obtain ⟨l, a, sz, tap, st, rfl, hl, hz, ha, hst, k⟩ := h
    have nd := sc__law_reached.nd
    have hu : _ + 1 < cLine := Nat.lt_of_le_of_lt (Nat.add_le_add_left (by decide : 1 ≤ 64) _) hr.units
    refine ⟨_, pss_cons (ps_set (i := 3) nd rfl (Or.inl rfl) (pe_lst (pa_cons (pv 2) pa_nil)))
      (pss_cons (ps_set (i := 4) nd rfl (Or.inl rfl) (pe_disp1T hr.units0 (pv 2) pe_bl))
      (pss_cons (ps_set (i := 5) nd rfl (Or.inl rfl) pe_int)
      (pss_cons (ps_while PassesOwn.never (pt_cmpR op_lt (pv 5) (pe_callB call_len_seq (by rfl) B.len PySem.boot_len (pa_cons (pv 3) pa_nil)) (nomark _))
        (pss_cons (ps_for PassesOwn.never rfl (pi_list (pe_fn AM hr (pa_cons (pv 0) (pa_cons (pv 1) pa_nil)))) (pg_name (i := 6) nd rfl (Or.inl rfl))
          (pss_cons (ps_set (i := 7) nd rfl (Or.inl rfl) (pe_fn BH hr (pa_cons (pv 0) (pa_cons (pe_ix ix_list (pv 3) (pv 5) (fun _ _ => rfl)) (pa_cons (pv 6) pa_nil)))))
          (pss_one (ps_if (pt_cmp (pc_dnotin hu (pv 7) (pv 4)) rfl)
            (pss_cons (ps_dput hu (pv 4) (pv 7) pe_bl rfl) (pss_one (ps_expr (pe_append (pv 3) (pv 7)))))
            pss_nil))))
        (pss_one (ps_set (i := 5) nd rfl (Or.inl rfl) (pe_op op_add (pv 5) pe_int)))))
      (pss_one (ps_ret (pe_callB call_sortT (by rfl) hs bt_sorted (pa_cons (pv 3) pa_nil))))))), ?_⟩
    have hg := J.good_moves (tap := tap) hz.nn
    have hle := hz.states_le
    refine ⟨_, rfl, (by show 1 ≤ sizeLine; decide), fun rw nrw => ?_⟩
    refine fun d nd' => ⟨_, rfl, kOf st, a, rfl, ?_, upd_same, ?_⟩
    · rw [upd_ne (ne_of_none ((Same.new nrw) _ _ ha) nd'), kOf_map]
      exact (Same.new nrw) _ _ ha
    rw [upd_upd]
    have drw : rw ≠ d := fun e => by subst e; rw [upd_same] at nd'; cases nd'
    have nd0 : H d = none := by rwa [upd_ne drw.symm] at nd'
    have lw0 : LW H (upd (upd H rw (.lst [.ref a])) d (.dT [(kOf st, .bl true)])) d rw (J.run sz (J.moves sz.length tap) st 0) := by
      refine ⟨[(kOf st, .bl true)], [.ref a], ((Same.refl _).put nrw).put nd0, upd_same, by rw [upd_ne drw, upd_same], .cons ⟨a, rfl, ?_⟩ .nil, rfl⟩
      rw [upd_ne (ne_of_none ha nd0), upd_ne (ne_of_none ha nrw)]
      exact ha
    refine ⟨fun n σ H' => ∃ (pl : Nat) (v6 v7 : Option V), σ = [some (.ref l), some (.bl tap), some (.ref a), some (.ref rw), some (.ref d), some (.int pl), v6, v7] ∧ LW H H' d rw (J.run sz (J.moves sz.length tap) st pl) ∧ n = (J.states sz).length - pl,
      ⟨_, 0, none, none, rfl, lw0, rfl⟩, ?_⟩
    rintro n σ H' ⟨pl, v6, v7, rfl, ws, rfl⟩
    obtain ⟨kvs, rs, s5, e1, e2, p1, wd⟩ := id ws
    have hl' : rs.length = (J.run sz (J.moves sz.length tap) st pl).length := by have := p1.length; simpa using this
    have rl := J.run_le hg hst pl
    refine ⟨_, rfl, _, rfl, rw, _, rfl, .inl (SqL.of e2), _, _, rfl, rfl, _, rfl, ?_⟩
    by_cases c : (pl : Int) < (rs.length : Int)
    · rw [decide_eq_true c]
      obtain ⟨x, hx⟩ : ∃ x, (J.run sz (J.moves sz.length tap) st pl)[pl]? = some x := ⟨_, List.getElem?_eq_getElem (by omega)⟩
      have hxs : J.IsSt sz x.1 := (J.run_inv hg hst pl).sts x (List.mem_of_getElem? hx)
      refine iteT ⟨fun σ' H'' => ∃ v6 v7 : Option V, σ' = [some (.ref l), some (.bl tap), some (.ref a), some (.ref rw), some (.ref d), some (.int ((pl : Int) + 1)), v6, v7] ∧ LW H H'' d rw (J.run sz (J.moves sz.length tap) st (pl + 1)),
        fun σ' H'' ⟨v6, v7, e, w'⟩ => ⟨_, by omega, pl + 1, v6, v7, e, w', rfl⟩, ?_⟩
      refine ⟨_, rfl, _, rfl, l, sz, tap, rfl, s5 _ _ hl, hz.l4, fun r H6 ys s6 nr er pm => ?_⟩
      refine ⟨r, rfl, ⟨_, SqL.of er⟩, for_list (K := K) (a := r) (xs := ys) (fun j σ H'' => ∃ v6 v7 : Option V, σ = [some (.ref l), some (.bl tap), some (.ref a), some (.ref rw), some (.ref d), some (.int pl), v6, v7] ∧ H'' r = some (.lst ys) ∧ Paired (isTI H'') ys ((J.moves sz.length tap).map mvT) ∧
        LW H H'' d rw (J.addAll sz x.1 pl ((J.moves sz.length tap).take j) (J.run sz (J.moves sz.length tap) st pl))) ⟨v6, v7, rfl, er, pm, by simpa [J.addAll] using ws.same s6⟩ (fun j σ H'' _ ⟨_, _, _, e, _⟩ => SqL.of e) ?_ ?_⟩
      · rintro j v σ H7 hv' ⟨v6, v7, rfl, er7, pm7, ws7⟩
        obtain ⟨mt, hmt, pp, rfl, hpp⟩ := L2.Paired.get pm7 hv'
        rw [List.getElem?_map] at hmt
        obtain ⟨m, hm, rfl⟩ := Option.map_eq_some_iff.mp hmt
        obtain ⟨kv7, rs7, s70, e71, e72, p71, wd7⟩ := id ws7
        have hx7 := addAll_pre (sz := sz) (here := x.1) (p := pl) ((J.moves sz.length tap).take j) hx
        have hlen7 : pl < rs7.length := by have := p71.length; rw [List.length_map] at this; have := (List.getElem?_eq_some_iff.mp hx7).1; omega
        have hv : rs7[pl]? = some (rs7[pl]'hlen7) := List.getElem?_eq_getElem hlen7
        obtain ⟨z, hz', aa, eaa, haa⟩ := L2.Paired.get p71 hv
        rw [List.getElem?_map, hx7] at hz'
        cases hz'
        rw [eaa] at hv
        refine ⟨_, rfl, _, rfl, _, rfl, rw, _, _, _, rfl, rfl, SqL.of e72, atI_nat hv, _, rfl, l, aa, pp, sz, x.1, m, tap, rfl, s70 _ _ hl, haa, hpp, hxs, J.mem_moves.mp (List.mem_of_getElem? hm), hz.l4, fun bb H8 s8 e8 => ?_⟩
        have ws8 := ws7.same s8
        have er8 := s8 _ _ er7
        have pm8 := pt_fix pm7 (Fix.of s8)
        obtain ⟨kv8, rs8, s80, e81, e82, p81, wd8⟩ := id ws8
        refine ⟨_, rfl, _, rfl, d, _, rfl, DGet.t (k := kOf (J.behind sz x.1 m)) e81 (by rw [kOf_map]; exact e8), _, rfl, ?_⟩
        rw [addAll_take hm]
        rw [keys_has wd8]
        by_cases hin : J.behind sz x.1 m ∈ (J.addAll sz x.1 pl ((J.moves sz.length tap).take j) (J.run sz (J.moves sz.length tap) st pl)).map (·.1)
        · rw [decide_eq_true hin]
          refine iteF ⟨_, _, rfl, er8, pm8, ?_⟩
          unfold J.addOne
          rw [if_pos hin]
          exact ws8
        · have no := keys_has wd8 (J.behind sz x.1 m)
          rw [decide_eq_false hin] at no
          rw [decide_eq_false hin]
          have hno : valV kv8 (kOf (J.behind sz x.1 m)) = none := by
            cases e : valV kv8 (kOf (J.behind sz x.1 m)) with
            | none => rfl
            | some v => rw [e] at no; cases no
          have l1 : kv8.length = (J.addAll sz x.1 pl ((J.moves sz.length tap).take j) (J.run sz (J.moves sz.length tap) st pl)).length := by have := congrArg List.length wd8; simpa using this
          have l2 := addAll_len (sz := sz) (here := x.1) (p := pl) ((J.moves sz.length tap).take j) (W := J.run sz (J.moves sz.length tap) st pl)
          have l3 := moves_len sz.length (by have := hz.l4; omega) tap
          have l4 : ((J.moves sz.length tap).take j).length ≤ (J.moves sz.length tap).length := by rw [List.length_take]; exact Nat.min_le_right _ _
          have l5 := p81.length
          rw [List.length_map] at l5
          refine iteT ⟨_, rfl, _, rfl, d, _, rfl, DPut.t (k := kOf (J.behind sz x.1 m)) e81 (by rw [kOf_map]; exact e8) (by rw [sizeLine_eq]; omega), ?_⟩
          rw [putK_new _ hno]
          have drw8 : rw ≠ d := ne_of e82 e81 (by intro h; cases h)
          have g2 : (upd H8 d (.dT (kv8 ++ [(kOf (J.behind sz x.1 m), .bl true)]))) rw = some (.lst rs8) := by rw [upd_ne drw8]; exact e82
          refine ⟨_, rfl, .inl ⟨rfl, _, SqL.of g2⟩, _, rfl, rw, _, _, rfl, rfl, g2, (by rw [sizeLine_eq]; omega), ?_⟩
          have f1 : Fix H8 (upd (upd H8 d (.dT (kv8 ++ [(kOf (J.behind sz x.1 m), .bl true)]))) rw (.lst (rs8 ++ [.ref bb]))) := (Fix.put e81 rfl).trans (Fix.put g2 rfl)
          refine ⟨_, _, rfl, by rw [upd_ne (ne_of_none e2 nr).symm, upd_ne (ne_of_none e1 nr).symm]; exact er8, pt_fix pm8 f1, ?_⟩
          unfold J.addOne
          rw [if_neg hin]
          refine ⟨kv8 ++ [(kOf (J.behind sz x.1 m), .bl true)], rs8 ++ [.ref bb], (s80.put nd0).put nrw, by rw [upd_ne drw8.symm, upd_same], upd_same, ?_, ?_⟩
          · rw [List.map_append]
            exact Paired.snocP (pt_fix p81 f1) ⟨bb, rfl, f1 _ _ e8 rfl⟩
          · rw [List.map_append, List.map_append, wd8]; rfl
      · rintro σ H7 ⟨v6, v7, rfl, er7, pm7, ws7⟩
        refine ⟨_, rfl, _, _, rfl, rfl, v6, v7, rfl, ?_⟩
        rw [J.run_step hx]
        have el : ys.length = (J.moves sz.length tap).length := by have := pm.length; simpa using this
        rw [el, List.take_length] at ws7
        exact ws7
    · rw [decide_eq_false c]
      have en : J.run sz (J.moves sz.length tap) st pl = J.ways sz (J.moves sz.length tap) st := J.run_end hg hst (p := pl) (by omega)
      rw [en] at p1
      have l1 := p1.length
      have l2 := wst_len (tap := tap) hz hst
      have e3 : (J.ways sz (J.moves sz.length tap) st).map (·.1) = wst sz tap st := rfl
      rw [e3] at l1
      refine ⟨_, rfl, .mk rw rs (wst sz tap st) rfl (SqL.of e2) p1 (by omega) (wst_ne hz hst) fun r ys nr py => ?_⟩
      have s6 : Same H' (upd H' r (.lst ys)) := Same.new nr
      exact k r _ ys (s5.trans s6) (s5.free nr) upd_same (pt_fix py (Fix.of s6))
end
end Jug

namespace Jug
open PySem L2
/-! ### the law of what is reached -/
theorem eq_sorted {l₁ l₂ : List Int} (n1 : l₁.Nodup) (n2 : l₂.Nodup) (s1 : l₁.Pairwise (· ≤ ·)) (s2 : l₂.Pairwise (· ≤ ·)) (h : ∀ v, v ∈ l₁ ↔ v ∈ l₂) : l₁ = l₂ :=
  List.Perm.eq_of_pairwise (fun a b _ _ h1 h2 => Int.le_antisymm h1 h2) s1 s2 ((List.perm_ext_iff_of_nodup n1 n2).mpr h)
theorem bt_any : bootBuiltins "any" = some (.builtin "any") := by decide +kernel
theorem kit_bb' {K : PySem.W.Frag} : PySem.W.kitOne K (.type "bool") (.type "bool") = some true := by
  unfold PySem.W.kitOne
  rw [if_pos (by simp)]
section
variable {P : Program} {w : World} {K : PySem.W.Frag} {mg : Str → Option Value} {base : Heap} {CH : Addr} {Z : Cz}
/-- law's: a list of at most 63 ints is handed in, True comes out -/
def spLaw (K : PySem.W.Frag) : Sp := fun vs H Q _ => ∃ (a : Addr) (ns : List Int), vs = [.ref a] ∧ SqL K H a (ns.map V.int) ∧ ns.length ≤ 63 ∧ ∀ H', Q (.bl true) H'
theorem ok_law2 {f : Addr} {fd : FuncData} (F : Fun K "law" "law" s_law f fd) (B : Bt mg) (hso : mg "sorted" = none) (han : mg "any" = none)
    (D : FnB P w K mg base 1 "_law_draw" ["_law_cell", "_law_k", "_law_many"] sp_draw) (CA : FnB P w K mg base 1 "_law_cell_at" ["_law_script", "_law_k"] (sp_cell_at K))
    (LZ : FnB P w K mg base 2 "_law_sizes" ["_law_cell"] sp_law_sizes) (LS : FnB P w K mg base 2 "_law_state" ["_law_cell", "_law_sizes_here"] sp_law_state) (LR : FnB P w K mg base 2 "_law_reached" ["_law_sizes_here", "_law_tap", "_law_state_here"] sp_lreached)
    (MH : MkB P w K mg base 3 "House" CH ["self", "sizes", "tap"] (sp_House_init CH)) (RE : FnB P w K mg base 9 "reached" ["house", "state"] (sp_reached CH)) (ME : FnB P w K mg base 9 "measured" ["house", "state"] (sp_measured CH))
    (TI : FnB P w K mg base 9 "tied" ["house", "one", "other"] (sp_tied CH)) : FnOk P w K mg base CX0 10 f fd ["_law_script"] (spLaw K) := by
  refine F.ok sc_law (fun vs H Q E h => ?_) (fun cdv A outer s H vs Q E hr h => ?_)
  · obtain ⟨a, ns, rfl, _⟩ := h
    rfl
  · obtain ⟨a, ns, rfl, hS, hlen, k⟩ := h
    have nd := sc_law.nd
    have hr1 : Room 1 _ := hr.mono (by decide)
    have hr2 : Room 2 _ := hr.mono (by decide)
    have hr4 : Room 4 _ := hr.mono (by decide)
    have hu20 := hr.u20
    have hu : _ + 1 < cLine := Nat.lt_of_le_of_lt (Nat.add_le_add_left (by decide : 1 ≤ 64) _) hr.units
    refine ⟨_, pss_cons (ps_set (i := 1) nd rfl (Or.inl rfl) (pe_fn LZ hr2 (pa_cons (pe_fn CA hr1 (pa_cons (pv 0) (pa_cons pe_int pa_nil))) pa_nil)))
      (pss_cons (ps_set (i := 2) nd rfl (Or.inl rfl) (pe_cmpR op_eq (pe_fn D hr1 (pa_cons (pe_fn CA hr1 (pa_cons (pv 0) (pa_cons pe_int pa_nil))) (pa_cons pe_int (pa_cons pe_int pa_nil)))) pe_int (nomark _)))
      (pss_cons (ps_set (i := 3) nd rfl (Or.inl rfl) (pe_mk MH hr4 (pa_cons (pv 1) (pa_cons (pv 2) pa_nil))))
      (pss_cons (ps_set (i := 4) nd rfl (Or.inl rfl) (pe_fn LS hr2 (pa_cons (pe_fn CA hr1 (pa_cons (pv 0) (pa_cons pe_int pa_nil))) (pa_cons (pv 1) pa_nil))))
      (pss_cons (ps_set (i := 5) nd rfl (Or.inl rfl) (pe_fn LR hr2 (pa_cons (pv 1) (pa_cons (pv 2) (pa_cons (pv 4) pa_nil)))))
      (pss_cons (ps_set (i := 6) nd rfl (Or.inl rfl) pe_dnewK)
      (pss_cons (ps_for PassesOwn.never rfl (pi_list (pv 5)) (pg_name (i := 7) nd rfl (Or.inl rfl))
        (pss_one (ps_for PassesOwn.never rfl (pi_tup (pv 7)) (pg_name (i := 8) nd rfl (Or.inl rfl)) (pss_one (ps_dput hu (pv 6) (pv 8) pe_bl rfl)))))
      (pss_cons (ps_for PassesOwn.never rfl (pi_range1 (by rfl) B.range (pa_cons pe_int pa_nil)) (pg_name (i := 9) nd rfl (Or.inl rfl))
        (pss_cons (ps_set (i := 10) nd rfl (Or.inl rfl) (pe_fn RE hr (pa_cons (pv 3) (pa_cons (pv 4) pa_nil))))
        (pss_cons (ps_set (i := 11) nd rfl (Or.inl rfl) (pe_fn ME hr (pa_cons (pv 3) (pa_cons (pv 4) pa_nil))))
        (pss_cons (ps_if (PW.pt (pw_or (pt_not (pt_val (pe_callB call_isinst (by rfl) B.isinstance bt_isinstance (pa_cons (pv 10) (pa_cons (pe_bltn (v := .ty "list") (by rfl) B.list bt_list rfl) pa_nil)))))
          (pw_or (pt_cmpR (op_neD hu20) (pv 10) (pv 5) (nomark _))
          (pw_or (pt_not (pt_val (pe_callB call_isinst (by rfl) B.isinstance bt_isinstance (pa_cons (pv 11) (pa_cons (pe_bltn (v := .ty "list") (by rfl) B.list bt_list rfl) pa_nil)))))
          (pw_or1 (pt_cmpR (op_neD hu20) (pv 11) (pe_callB (call_sorted_dk rfl) (by rfl) hso bt_sorted (pa_cons (pv 6) pa_nil)) (nomark _))))))) pss_never pss_nil)
        (pss_cons (ps_if (pt_val (pe_callB (call_any rfl) (by rfl) han bt_any (pa_cons (pe_lc sc_law [] (pi_list (pv 11)) (fun _ _ _ _ _ _ => ⟨pif_nil, pe_or (pe_callB (call_isinstK K) (by rfl) B.isinstance bt_isinstance (pa_cons (pv 0) (pa_cons (pe_bltn (v := .ty "bool") (by rfl) B.bool bt_bool rfl) pa_nil)))
          (pe_one (pe_not (pe_callB (call_isinstK K) (by rfl) B.isinstance bt_isinstance (pa_cons (pv 0) (pa_cons (pe_bltn (v := .ty "int") (by rfl) B.int bt_int rfl) pa_nil)))))⟩)) pa_nil))) pss_never pss_nil)
        (pss_cons (ps_expr (pe_append (pv 10) (pe_tup pa_nil)))
        (pss_one (ps_expr (pe_append (pv 11) pe_int)))))))))
      (pss_cons (ps_set (i := 12) nd rfl (Or.inl rfl) (pe_fn LS hr2 (pa_cons (pe_fn CA hr1 (pa_cons (pv 0) (pa_cons pe_int pa_nil))) (pa_cons (pv 1) pa_nil))))
      (pss_cut (ps_if (pt_cmpR op_eq (pe_fn D hr1 (pa_cons (pe_fn CA hr1 (pa_cons (pv 0) (pa_cons pe_int pa_nil))) (pa_cons pe_int (pa_cons pe_int pa_nil)))) pe_int (nomark _))
        (pss_one (ps_set (i := 12) nd rfl (Or.inl rfl) (pe_ix ix_list (pv 5) (pe_fn D hr1 (pa_cons (pe_fn CA hr1 (pa_cons (pv 0) (pa_cons pe_int pa_nil))) (pa_cons pe_int (pa_cons (pe_callB call_len_seq (by rfl) B.len PySem.boot_len (pa_cons (pv 5) pa_nil)) pa_nil)))) (fun _ _ => rfl)))) pss_nil)
      (pss_cons (ps_set (i := 13) nd rfl (Or.inl rfl) (pe_cmpR (op_inD hu20) (pv 4) (pe_fn LR hr2 (pa_cons (pv 1) (pa_cons (pv 2) (pa_cons (pv 12) pa_nil)))) (by rfl)))
      (pss_cons (ps_set (i := 11) nd rfl (Or.inl rfl) (pe_fn TI hr (pa_cons (pv 3) (pa_cons (pv 4) (pa_cons (pv 12) pa_nil)))))
      (pss_cons (ps_if (PW.pt (pw_or (pt_not (pt_val (pe_callB call_isinst (by rfl) B.isinstance bt_isinstance (pa_cons (pv 11) (pa_cons (pe_bltn (v := .ty "bool") (by rfl) B.bool bt_bool rfl) pa_nil)))))
        (pw_or1 (pt_cmpR op_ne (pv 11) (pe_and (pv 13) (pe_one (pe_cmpR (op_inD hu20) (pv 12) (pv 5) (by rfl)))) (nomark _))))) pss_never pss_nil)
      (pss_one (ps_ret (pe_and (pe_cmpR op_eq (pe_fn TI hr (pa_cons (pv 3) (pa_cons (pv 12) (pa_cons (pv 4) pa_nil)))) (pv 11) (nomark _)) (pe_one (pe_cmpR op_isB (pe_fn TI hr (pa_cons (pv 3) (pa_cons (pv 4) (pa_cons (pv 4) pa_nil)))) pe_bl (nomark _)))))))))))))))))), ?_⟩
    refine ⟨_, rfl, a, ns, 0, rfl, hS, by decide, fun c0 => ⟨c0, rfl, fun l H1 sz s1 nl el lz => ?_⟩⟩
    have hz := lz.hz
    have h4 := hz.l4
    have hnn : ∀ s ∈ sz, 0 ≤ s := fun s hs => by have := (hz.bd s hs).1; omega
    refine ⟨_, rfl, a, ns, 1, rfl, s1.seq hS, by decide, fun c1 => ⟨c1, 0, 2, rfl, by decide, by decide, fun x H2 x0 x2 s2 => ⟨rfl, ?_⟩⟩⟩
    generalize decide (V.int x = V.int 0) = tap
    have el2 := s2 _ _ el
    have t2 := s1.trans s2
    refine ⟨_, rfl, _, rfl, fun p dx np ndx nex => ⟨p, dx, l, sz, tap, rfl, upd_same, ?_, hz, fun H4 kp hh4 => ⟨rfl, ?_⟩⟩⟩
    · rw [upd_ne (ne_of_none el2 np), upd_ne (ne_of_none el2 ndx)]; exact el2
    have s4 : Same H2 H4 := fun c o e => kp c o (by rw [upd_ne (ne_of_none e np), upd_ne (ne_of_none e ndx)]; exact e) (ne_of_none e np)
    have el4 := s4 _ _ el2
    have t4 := t2.trans s4
    refine ⟨_, rfl, a, ns, 2, rfl, t4.seq hS, by decide, fun c2 => ⟨_, rfl, c2, l, sz, rfl, el4, h4, hnn, fun t H5 st s5 et hst => ?_⟩⟩
    have t5 := t4.trans s5
    have el5 := s5 _ _ el4
    have hh5 := hh4.mono s5
    refine ⟨_, rfl, _, rfl, _, rfl, l, t, sz, tap, st, rfl, el5, hz, et, hst, fun du H6 ys s6 ndu edu pdu => ?_⟩
    have t6 := t5.trans s6
    have el6 := s6 _ _ el5
    have et6 := s6 _ _ et
    have hh6 := hh5.mono s6
    have ldu := Paired.length pdu
    have ldl : (due sz tap st).length ≤ 2000 := by rw [due_len]; exact wst_len hz hst
    refine fun am nam => ?_
    have s7 : Same H6 (upd H6 am (.dK [])) := Same.new nam
    have bds : ∀ u ∈ due sz tap st, ∀ v ∈ u, 0 ≤ v ∧ v ≤ 60 := fun u hu' v hv => st_bounds hz (wst_st hz hst (due_mem.mp hu')) hv
    refine ⟨_, rfl, du, rfl, ⟨_, SqL.of (s7 _ _ edu)⟩, for_list (K := K) (a := du) (xs := ys) (fun i σ H' => ∃ v7 v8 : Option V, σ = [some (.ref a), some (.ref l), some (.bl tap), some (.ref p), some (.ref t), some (.ref du), some (.ref am), v7, v8, none, none, none, none, none] ∧ Same H6 H' ∧ Am H' am (((due sz tap st).take i).flatMap id))
      ⟨none, none, rfl, s7, [], [], upd_same, rfl, .nil, fun v => by simp⟩ (fun i σ H' _ ⟨_, _, _, e, _⟩ => SqL.of (e _ _ edu)) ?_ ?_⟩
    · rintro i v σ H' hv ⟨v7, v8, rfl, s8, am8⟩
      obtain ⟨u, hu', b, rfl, hb6⟩ := L2.Paired.get pdu hv
      have hb := s8 _ _ hb6
      have hum := List.mem_of_getElem? hu'
      refine ⟨_, rfl, b, rfl, ⟨_, SqT.of hb⟩, for_tup (K := K) (a := b) (xs := u.map V.int) (fun j σ H'' => ∃ v8 : Option V, σ = [some (.ref a), some (.ref l), some (.bl tap), some (.ref p), some (.ref t), some (.ref du), some (.ref am), some (.ref b), v8, none, none, none, none, none] ∧ Same H6 H'' ∧ Am H'' am (((due sz tap st).take i).flatMap id ++ u.take j))
        ⟨v8, rfl, s8, by simpa using am8⟩ (fun j σ H'' _ ⟨_, _, e, _⟩ => SqT.of (e _ _ hb6)) ?_ ?_⟩
      · rintro j y σ H9 hy ⟨v8, rfl, s9, kv6, ks6, e6, k6, n6, m6⟩
        rw [List.getElem?_map] at hy
        obtain ⟨z, hz1, rfl⟩ := Option.map_eq_some_iff.mp hy
        have hl : ks6.length ≤ 61 := ints_le n6 fun v hv => by
          rcases List.mem_append.mp ((m6 v).mp hv) with h | h
          · obtain ⟨x', hx', hv'⟩ := List.mem_flatMap.mp h
            exact bds x' (List.mem_of_mem_take hx') v hv'
          · exact bds u hum v (List.mem_of_mem_take h)
        have lk : kv6.length = ks6.length := by have := congrArg List.length k6; simpa using this
        refine ⟨_, rfl, _, rfl, am, _, rfl, DPut.k (k := Sum.inl z) e6 (by rw [sizeLine_eq]; omega), ?_⟩
        refine ⟨_, rfl, s9.put nam, _, addK ks6 z, upd_same, put_keys k6 _ _, addK_nd n6 z, fun v => ?_⟩
        rw [addK_mem, m6, List.take_add_one, hz1]
        simp [or_assoc]
      · rintro σ H9 ⟨v8, rfl, s9, am9⟩
        refine ⟨_, _, rfl, s9, ?_⟩
        rw [List.length_map, List.take_length] at am9
        rw [List.take_add_one, hu']
        simpa using am9
    · rintro σ H7 ⟨v7, v8, rfl, s8, kv, ks, eam, ek, nk, mem⟩
      rw [ldu, List.take_length] at mem
      have hkl : ks.length ≤ 61 := ints_le nk fun v hv => by
        obtain ⟨u, hu', hv'⟩ := List.mem_flatMap.mp ((mem v).mp hv)
        exact bds u hu' v hv'
      have t7 := t6.trans s8
      have edu7 := s8 _ _ edu
      have pdu7 := pt_fix pdu (Fix.of s8)
      have et7 := s8 _ _ et6
      have el7 := s8 _ _ el6
      have hh7 := hh6.mono s8
      refine ⟨2, rfl, by decide, by decide, for_rangeN (n := 2) (fun i σ H' => ∃ v9 v10 v11 : Option V, σ = [some (.ref a), some (.ref l), some (.bl tap), some (.ref p), some (.ref t), some (.ref du), some (.ref am), v7, v8, v9, v10, v11, none, none] ∧ Same H7 H')
        ⟨none, none, none, rfl, Same.refl _⟩ ?_ ?_⟩
      · rintro i σ H' hi ⟨v9, v10, v11, rfl, s9⟩
        refine ⟨_, rfl, _, rfl, p, t, sz, tap, st, rfl, hh7.mono s9, hz, s9 _ _ et7, hst, fun fo H8 zs s10 nfo efo pfo => ?_⟩
        have u8 := s9.trans s10
        refine ⟨_, rfl, _, rfl, p, t, sz, tap, st, rfl, hh7.mono u8, hz, u8 _ _ et7, hst, fun ml H9 ms s11 nml eml nms sms mms => ?_⟩
        have u9 := u8.trans s11
        have efo9 := s11 _ _ efo
        have pfo9 := pt_fix pfo (Fix.of s11)
        refine ⟨_, rfl, _, _, _, _, _, rfl, .ty "list", .lst efo9, kit_ll, _, rfl, iteF ?_⟩
        refine ⟨_, rfl, _, rfl, _, rcLT efo9 pfo9 (u9 _ _ edu7) (pt_fix pdu7 (Fix.of u9)), _, rfl, ?_⟩
        rw [decide_eq_true rfl]
        refine iteF ?_
        refine ⟨_, rfl, _, _, _, _, _, rfl, .ty "list", .lst eml, kit_ll, _, rfl, iteF ?_⟩
        refine ⟨_, rfl, _, rfl, am, ks, rfl, ⟨kv, .inl (u9 _ _ eam), ek⟩, by omega, fun l2 ys2 nl2 hp hs2 => ?_⟩
        have em : ms = ys2 := eq_sorted nms (hp.nodup_iff.mpr nk) sms hs2 fun v => by
          rw [mms, hp.mem_iff, mem]
          constructor
          · rintro ⟨x', hx', hv⟩
            exact List.mem_flatMap.mpr ⟨x'.1, due_mem.mpr (List.mem_map.mpr ⟨x', hx', rfl⟩), hv⟩
          · intro hv
            obtain ⟨u, hu', hv⟩ := List.mem_flatMap.mp hv
            obtain ⟨x', hx', e⟩ := List.mem_map.mp (due_mem.mp hu')
            exact ⟨x', hx', by rw [e]; exact hv⟩
        have s12 : Same H9 (upd H9 l2 (.lst (ys2.map V.int))) := Same.new nl2
        refine ⟨_, rcL (s12 _ _ eml) upd_same, _, rfl, ?_⟩
        rw [decide_eq_true em]
        refine iteF ?_
        have eml2 := s12 _ _ eml
        have efo2 := s12 _ _ efo9
        have u10 := u9.trans s12
        have lms : ms.length ≤ 61 := by rw [em]; have := hp.length_eq; omega
        generalize upd H9 l2 (.lst (ys2.map V.int)) = H10 at eml2 efo2 u10 ⊢
        refine ⟨_, rfl, ml, rfl, ⟨_, SqL.of eml2⟩, lc_list (xs := ms.map V.int) (fun i ys H' => ys = (List.replicate i false).map V.bl ∧ H' = H10) ⟨rfl, rfl⟩ (by rw [List.length_map]; exact small1000 (by omega)) (fun i ys H' ⟨e, _⟩ => by rw [e]; simp)
          (fun i ys H' _ ⟨_, e⟩ => by subst e; exact SqL.of eml2) (fun i x ys H' hx ⟨e1, e2⟩ => ?_) (fun ys H' ⟨e1, e2⟩ => ?_)⟩
        · rw [List.getElem?_map] at hx
          obtain ⟨z, ez, rfl⟩ := Option.map_eq_some_iff.mp hx
          subst e1 e2
          refine tYes_of ⟨_, rfl, _, _, _, _, _, rfl, .ty "bool", .int z, kit_ib, _, rfl, iteF ?_⟩
          refine ⟨_, rfl, _, _, _, _, _, rfl, .ty "int", .int z, kit_ii, _, rfl, ?_, rfl⟩
          rw [List.replicate_succ', List.map_append]
          rfl
        · subst e1 e2
          intro Dl nD
          refine ⟨Dl, List.replicate (ms.map V.int).length false, rfl, SqL.of upd_same, _, rfl, ?_⟩
          have e : (List.replicate (ms.map V.int).length false).any id = false := by
            rw [List.any_eq_false]
            intro x hx
            rw [(List.mem_replicate.mp hx).2]; simp
          rw [e]
          refine iteF ?_
          have s13 := u10.lay (o := .lst ((List.replicate (ms.map V.int).length false).map V.bl)) nD
          have s13' : Same H' (upd H' Dl (.lst ((List.replicate (ms.map V.int).length false).map V.bl))) := Same.new nD
          have efo3 := s13' _ _ efo2
          have eml3 := s13' _ _ eml2
          generalize upd H' Dl (.lst ((List.replicate (ms.map V.int).length false).map V.bl)) = H11 at s13 efo3 eml3 ⊢
          have fo7 : H7 fo = none := s9.free nfo
          have ml7 : H7 ml = none := u8.free nml
          have fm : fo ≠ ml := ne_of_none efo nml
          have lzs := Paired.length pfo
          refine ⟨_, rfl, .inl ⟨rfl, _, SqL.of efo3⟩, (by show 0 ≤ sizeLine; decide), fun tt ntt => ?_⟩
          have s14 : Same H11 (upd H11 tt (.tup [])) := Same.new ntt
          refine ⟨fo, zs, _, rfl, rfl, s14 _ _ efo3, by rw [sizeLine_eq]; omega, ?_⟩
          have eml4 : (upd (upd H11 tt (.tup [])) fo (.lst (zs ++ [.ref tt]))) ml = some (.lst (ms.map V.int)) := by rw [upd_ne fm.symm]; exact s14 _ _ eml3
          refine ⟨_, rfl, .inl ⟨rfl, _, SqL.of eml4⟩, ml, _, _, rfl, rfl, eml4, by rw [List.length_map, sizeLine_eq]; omega, ?_⟩
          exact ⟨_, _, _, rfl, ((s13.trans s14).put fo7).put ml7⟩
      · rintro σ H8 ⟨v9, v10, v11, rfl, s9⟩
        have t8 := t7.trans s9
        have edu8 := s9 _ _ edu7
        have pdu8 := pt_fix pdu7 (Fix.of s9)
        have et8 := s9 _ _ et7
        have el8 := s9 _ _ el7
        have hh8 := hh7.mono s9
        refine ⟨_, rfl, a, ns, 3, rfl, t8.seq hS, by decide, fun c3 => ⟨_, rfl, c3, l, sz, rfl, el8, h4, hnn, fun o0 H9 so0 s10 eo0 hso0 => ?_⟩⟩
        refine ⟨fun σ H' => ∃ (o : Addr) (so : List Int), σ = [some (.ref a), some (.ref l), some (.bl tap), some (.ref p), some (.ref t), some (.ref du), some (.ref am), v7, v8, v9, v10, v11, some (.ref o), none] ∧ Same H8 H' ∧ H' o = some (.tup (so.map V.int)) ∧ J.IsSt sz so, ?_, ?_⟩
        · refine ⟨_, rfl, a, ns, 3, rfl, (t8.trans s10).seq hS, by decide, fun c4 => ⟨c4, 0, 3, rfl, by decide, by decide, fun r1 H10 p1 q1 s11 => ⟨rfl, _, rfl, ite2 (fun _ => ?_) (fun _ => ⟨o0, so0, rfl, s10.trans s11, s11 _ _ eo0, hso0⟩)⟩⟩⟩
          have u11 := s10.trans s11
          have hpos : 0 < ys.length := by
            rw [ldu]
            exact List.length_pos_of_mem (due_mem.mpr (wst_self (tap := tap) hz hst))
          refine ⟨_, rfl, _, rfl, a, ns, 3, rfl, (t8.trans u11).seq hS, by decide, fun c5 => ⟨_, rfl, du, _, rfl, .inl (SqL.of (u11 _ _ edu8)), c5, 1, (ys.length : Int), rfl, by decide, by omega, fun r2 H11 p2 q2 s12 => ?_⟩⟩
          have u12 := u11.trans s12
          obtain ⟨j, rfl⟩ : ∃ j : Nat, r2 = (j : Int) := ⟨r2.toNat, (Int.toNat_of_nonneg p2).symm⟩
          have hj : j < ys.length := by omega
          have hv : ys[j]? = some (ys[j]'hj) := List.getElem?_eq_getElem hj
          obtain ⟨u, hu', b, eb, hb⟩ := L2.Paired.get pdu8 hv
          rw [eb] at hv
          exact ⟨du, _, _, .ref b, rfl, rfl, SqL.of (u12 _ _ edu8), atI_nat hv, b, u, rfl, u12, u12 _ _ hb, wst_st hz hst (due_mem.mp (List.mem_of_getElem? hu'))⟩
        rintro _ H9 ⟨o, so, rfl, s10, eo, hso'⟩
        have el9 := s10 _ _ el8
        refine ⟨_, rfl, _, rfl, _, rfl, _, rfl, l, o, sz, tap, so, rfl, el9, hz, eo, hso', fun rb H10 zs s11 nrb erb prb => ?_⟩
        have u10 := s10.trans s11
        have eo10 := s11 _ _ eo
        refine ⟨List Int, inferInstance, isT K H10 isI, rb, zs, due sz tap so, st, rfl, EqR.tup (d := 18) EqR.int, .inl (SqL.of erb), toTs prb, toT ⟨t, rfl, u10 _ _ et8⟩, ?_⟩
        have eb : ∀ (x : List Int) (L : List (List Int)) (M : List (List Int)), (x ∈ L ↔ x ∈ M) → ∀ {D : Decidable (x ∈ L)}, (if (false : Bool) = true then !(@decide _ D) else @decide _ D) = decide (x ∈ M) := fun x L M hLM D => by
          rw [if_neg (by decide), decide_eq_decide]; exact hLM
        rw [eb st (due sz tap so) (wst sz tap so) due_mem]
        refine ⟨_, rfl, _, rfl, _, rfl, p, t, o, sz, tap, st, so, rfl, hh8.mono u10, hz, u10 _ _ et8, hst, eo10, hso', fun H11 s12 => ?_⟩
        have u11 := u10.trans s12
        have eo11 := s12 _ _ eo10
        generalize hA : decide (st ∈ wst sz tap so) = bA
        generalize hB : decide (so ∈ wst sz tap st) = bB
        refine ⟨_, rfl, _, _, _, _, _, rfl, .ty "bool", .bl _, kit_bb', _, rfl, iteF ?_⟩
        refine ⟨_, rfl, _, rfl, _, rfl, ?_⟩
        cases bA with
        | false =>
          refine iteF ⟨rfl, _, rfl, ?_⟩
          rw [Bool.and_false, decide_eq_true rfl]
          refine iteF ?_
          refine ⟨_, rfl, _, rfl, _, rfl, p, o, t, sz, tap, so, st, rfl, hh8.mono u11, hz, eo11, hso', u11 _ _ et8, hst, fun H12 s13 => ?_⟩
          rw [hA, hB, Bool.false_and]
          refine ⟨_, rfl, rfl, ?_⟩
          rw [decide_eq_true rfl]
          refine ⟨_, rfl, iteT ?_⟩
          have u12 := u11.trans s13
          refine ⟨_, rfl, _, rfl, _, rfl, p, t, t, sz, tap, st, st, rfl, hh8.mono u12, hz, u12 _ _ et8, hst, u12 _ _ et8, hst, fun H13 s14 => ⟨_, true, rfl, rfl, ?_⟩⟩
          rw [decide_eq_true (wst_self (tap := tap) hz hst)]
          exact k H13
        | true =>
          refine iteT ⟨_, rfl, _, rfl, List Int, inferInstance, isT K H11 isI, du, ys, due sz tap st, so, rfl, EqR.tup (d := 18) EqR.int, .inl (SqL.of (u11 _ _ edu8)), toTs (pt_fix pdu8 (Fix.of u11)), toT ⟨o, rfl, eo11⟩, ?_⟩
          rw [eb so (due sz tap st) (wst sz tap st) due_mem, hB]
          refine ⟨rfl, _, rfl, ?_⟩
          rw [Bool.and_true, decide_eq_true rfl]
          refine iteF ?_
          refine ⟨_, rfl, _, rfl, _, rfl, p, o, t, sz, tap, so, st, rfl, hh8.mono u11, hz, eo11, hso', u11 _ _ et8, hst, fun H12 s13 => ?_⟩
          rw [hA, hB, Bool.true_and]
          refine ⟨_, rfl, rfl, ?_⟩
          rw [decide_eq_true rfl]
          refine ⟨_, rfl, iteT ?_⟩
          have u12 := u11.trans s13
          refine ⟨_, rfl, _, rfl, _, rfl, p, t, t, sz, tap, st, st, rfl, hh8.mono u12, hz, u12 _ _ et8, hst, u12 _ _ et8, hst, fun H13 s14 => ⟨_, true, rfl, rfl, ?_⟩⟩
          rw [decide_eq_true (wst_self (tap := tap) hz hst)]
          exact k H13
end
end Jug

namespace Jug
open PySem L2
theorem anyC {P : Program} {w : World} {K : PySem.W.Frag} {mg : Str → Option Value} {base : Heap} {k : Nat} {Z : Cz} {m : Str} {ps : List Str} {sp : Sp} (h1 : MeB P w K mg base k Z.P m ps sp) (h2 : MeB P w K mg base k Z.F m ps sp) (h3 : MeB P w K mg base k Z.E m ps sp) :
    ∀ C, anyMv Z C → MeB P w K mg base k C m ps sp := by
  rintro C (rfl | rfl | rfl)
  · exact h1
  · exact h2
  · exact h3
theorem len1 {us : List Value} (h : us.length = 1) : ∃ a0, us = [a0] := match us, h with | [a0], _ => ⟨a0, rfl⟩
theorem len2 {us : List Value} (h : us.length = 2) : ∃ a0 a1, us = [a0, a1] := match us, h with | [a0, a1], _ => ⟨a0, a1, rfl⟩
theorem len3 {us : List Value} (h : us.length = 3) : ∃ a0 a1 a2, us = [a0, a1, a2] := match us, h with | [a0, a1, a2], _ => ⟨a0, a1, a2, rfl⟩
theorem all_mk {l : PySem.W.OpenLaw} {w : World} {K : PySem.W.Frag} {h : Heap} {mg : Str → Option Value} {fa : Addr} (X : K.In h) (G : h.Ns mainGlobals mg) (hfa : mg "law" = some (.ref fa))
    {t_MOST_JUGS : Tok}
    {t_MOST_SIZE : Tok}
    {t_MOST_STATES : Tok}
    {C_Pour : Addr}
    {C_Fill : Addr}
    {C_Empty : Addr}
    {C_House : Addr}
    {f0 : Addr} {oc0 kV0 dc0 pm0 cd0 ct0 : Value} {od0 an0 : Option Addr} {sl0 : Array (Option Value)}
    {f1 : Addr} {oc1 kV1 dc1 pm1 cd1 ct1 : Value} {od1 an1 : Option Addr} {sl1 : Array (Option Value)}
    {f2 : Addr} {oc2 kV2 dc2 pm2 cd2 ct2 : Value} {od2 an2 : Option Addr} {sl2 : Array (Option Value)}
    {f3 : Addr} {oc3 kV3 dc3 pm3 cd3 ct3 : Value} {od3 an3 : Option Addr} {sl3 : Array (Option Value)}
    {f4 : Addr} {oc4 kV4 dc4 pm4 cd4 ct4 : Value} {od4 an4 : Option Addr} {sl4 : Array (Option Value)}
    {f5 : Addr} {oc5 kV5 dc5 pm5 cd5 ct5 : Value} {od5 an5 : Option Addr} {sl5 : Array (Option Value)}
    {f6 : Addr} {oc6 kV6 dc6 pm6 cd6 ct6 : Value} {od6 an6 : Option Addr} {sl6 : Array (Option Value)}
    {f7 : Addr} {oc7 kV7 dc7 pm7 cd7 ct7 : Value} {od7 an7 : Option Addr} {sl7 : Array (Option Value)}
    {f8 : Addr} {oc8 kV8 dc8 pm8 cd8 ct8 : Value} {od8 an8 : Option Addr} {sl8 : Array (Option Value)}
    {f9 : Addr} {oc9 kV9 dc9 pm9 cd9 ct9 : Value} {od9 an9 : Option Addr} {sl9 : Array (Option Value)}
    {f10 : Addr} {oc10 kV10 dc10 pm10 cd10 ct10 : Value} {od10 an10 : Option Addr} {sl10 : Array (Option Value)}
    {f11 : Addr} {oc11 kV11 dc11 pm11 cd11 ct11 : Value} {od11 an11 : Option Addr} {sl11 : Array (Option Value)}
    {f12 : Addr} {oc12 kV12 dc12 pm12 cd12 ct12 : Value} {od12 an12 : Option Addr} {sl12 : Array (Option Value)}
    {f13 : Addr} {oc13 kV13 dc13 pm13 cd13 ct13 : Value} {od13 an13 : Option Addr} {sl13 : Array (Option Value)}
    {f14 : Addr} {oc14 kV14 dc14 pm14 cd14 ct14 : Value} {od14 an14 : Option Addr} {sl14 : Array (Option Value)}
    {f15 : Addr} {oc15 kV15 dc15 pm15 cd15 ct15 : Value} {od15 an15 : Option Addr} {sl15 : Array (Option Value)}
    {f16 : Addr} {oc16 kV16 dc16 pm16 cd16 ct16 : Value} {od16 an16 : Option Addr} {sl16 : Array (Option Value)}
    {f17 : Addr} {oc17 kV17 dc17 pm17 cd17 ct17 : Value} {od17 an17 : Option Addr} {sl17 : Array (Option Value)}
    {f18 : Addr} {oc18 kV18 dc18 pm18 cd18 ct18 : Value} {od18 an18 : Option Addr} {sl18 : Array (Option Value)}
    {f19 : Addr} {oc19 kV19 dc19 pm19 cd19 ct19 : Value} {od19 an19 : Option Addr} {sl19 : Array (Option Value)}
    {f20 : Addr} {oc20 kV20 dc20 pm20 cd20 ct20 : Value} {od20 an20 : Option Addr} {sl20 : Array (Option Value)}
    {f21 : Addr} {oc21 kV21 dc21 pm21 cd21 ct21 : Value} {od21 an21 : Option Addr} {sl21 : Array (Option Value)}
    {f22 : Addr} {oc22 kV22 dc22 pm22 cd22 ct22 : Value} {od22 an22 : Option Addr} {sl22 : Array (Option Value)}
    {f23 : Addr} {oc23 kV23 dc23 pm23 cd23 ct23 : Value} {od23 an23 : Option Addr} {sl23 : Array (Option Value)}
    {f24 : Addr} {oc24 kV24 dc24 pm24 cd24 ct24 : Value} {od24 an24 : Option Addr} {sl24 : Array (Option Value)}
    {f25 : Addr} {oc25 kV25 dc25 pm25 cd25 ct25 : Value} {od25 an25 : Option Addr} {sl25 : Array (Option Value)}
    {f26 : Addr} {oc26 kV26 dc26 pm26 cd26 ct26 : Value} {od26 an26 : Option Addr} {sl26 : Array (Option Value)}
    {f27 : Addr} {oc27 kV27 dc27 pm27 cd27 ct27 : Value} {od27 an27 : Option Addr} {sl27 : Array (Option Value)}
    {f28 : Addr} {oc28 kV28 dc28 pm28 cd28 ct28 : Value} {od28 an28 : Option Addr} {sl28 : Array (Option Value)}
    {f29 : Addr} {oc29 kV29 dc29 pm29 cd29 ct29 : Value} {od29 an29 : Option Addr} {sl29 : Array (Option Value)}
    {f30 : Addr} {oc30 kV30 dc30 pm30 cd30 ct30 : Value} {od30 an30 : Option Addr} {sl30 : Array (Option Value)}
    {f31 : Addr} {oc31 kV31 dc31 pm31 cd31 ct31 : Value} {od31 an31 : Option Addr} {sl31 : Array (Option Value)}
    (z_isinstance : PySem.W.nsIn K mainGlobals "isinstance" = some none)
    (z_int : PySem.W.nsIn K mainGlobals "int" = some none)
    (z_bool : PySem.W.nsIn K mainGlobals "bool" = some none)
    (z_tuple : PySem.W.nsIn K mainGlobals "tuple" = some none)
    (z_list : PySem.W.nsIn K mainGlobals "list" = some none)
    (z_len : PySem.W.nsIn K mainGlobals "len" = some none)
    (z_zip : PySem.W.nsIn K mainGlobals "zip" = some none)
    (z_range : PySem.W.nsIn K mainGlobals "range" = some none)
    (z_min : PySem.W.nsIn K mainGlobals "min" = some none)
    (z_str : PySem.W.nsIn K mainGlobals "str" = some none)
    (z_any : PySem.W.nsIn K mainGlobals "any" = some none)
    (z_sorted : PySem.W.nsIn K mainGlobals "sorted" = some none)
    (z_MOST_JUGS : PySem.W.nsIn K mainGlobals "MOST_JUGS" = some (some (.int 4 t_MOST_JUGS)))
    (z_MOST_SIZE : PySem.W.nsIn K mainGlobals "MOST_SIZE" = some (some (.int 60 t_MOST_SIZE)))
    (z_MOST_STATES : PySem.W.nsIn K mainGlobals "MOST_STATES" = some (some (.int 2000 t_MOST_STATES)))
    (a_Pour : PySem.W.nsIn K mainGlobals "Pour" = some (some (.ref C_Pour)))
    (pg_Pour : PySem.W.plainGet K C_Pour Str.empty = true)
    (hd_Pour : PySem.W.hasDictIn K C_Pour = true)
    (po_Pour : PySem.W.plainOver K C_Pour = true)
    (sa_Pour : PySem.W.findIn K (.ref C_Pour) "__setattr__" = some (some (.builtin "object.__setattr__")))
    (mk_Pour : PySem.W.makesIn K C_Pour = true)
    (kc_Pour : PySem.W.keepIn K (.ref C_Pour) = true)
    (n_Pour_one : PySem.W.findIn K (.ref C_Pour) "one" = some none)
    (n_Pour_other : PySem.W.findIn K (.ref C_Pour) "other" = some none)
    (ha_Pour : PySem.W.findIn K (.ref C_Pour) "__class__" = some (some (.builtin "object.__class__")))
    (hm_Pour : PySem.W.mroIn K C_Pour (.type "object") = some true)
    (a_Fill : PySem.W.nsIn K mainGlobals "Fill" = some (some (.ref C_Fill)))
    (pg_Fill : PySem.W.plainGet K C_Fill Str.empty = true)
    (hd_Fill : PySem.W.hasDictIn K C_Fill = true)
    (po_Fill : PySem.W.plainOver K C_Fill = true)
    (sa_Fill : PySem.W.findIn K (.ref C_Fill) "__setattr__" = some (some (.builtin "object.__setattr__")))
    (mk_Fill : PySem.W.makesIn K C_Fill = true)
    (kc_Fill : PySem.W.keepIn K (.ref C_Fill) = true)
    (n_Fill_jug : PySem.W.findIn K (.ref C_Fill) "jug" = some none)
    (ha_Fill : PySem.W.findIn K (.ref C_Fill) "__class__" = some (some (.builtin "object.__class__")))
    (hm_Fill : PySem.W.mroIn K C_Fill (.type "object") = some true)
    (a_Empty : PySem.W.nsIn K mainGlobals "Empty" = some (some (.ref C_Empty)))
    (pg_Empty : PySem.W.plainGet K C_Empty Str.empty = true)
    (hd_Empty : PySem.W.hasDictIn K C_Empty = true)
    (po_Empty : PySem.W.plainOver K C_Empty = true)
    (sa_Empty : PySem.W.findIn K (.ref C_Empty) "__setattr__" = some (some (.builtin "object.__setattr__")))
    (mk_Empty : PySem.W.makesIn K C_Empty = true)
    (kc_Empty : PySem.W.keepIn K (.ref C_Empty) = true)
    (n_Empty_jug : PySem.W.findIn K (.ref C_Empty) "jug" = some none)
    (ha_Empty : PySem.W.findIn K (.ref C_Empty) "__class__" = some (some (.builtin "object.__class__")))
    (hm_Empty : PySem.W.mroIn K C_Empty (.type "object") = some true)
    (a_House : PySem.W.nsIn K mainGlobals "House" = some (some (.ref C_House)))
    (pg_House : PySem.W.plainGet K C_House Str.empty = true)
    (hd_House : PySem.W.hasDictIn K C_House = true)
    (po_House : PySem.W.plainOver K C_House = true)
    (sa_House : PySem.W.findIn K (.ref C_House) "__setattr__" = some (some (.builtin "object.__setattr__")))
    (mk_House : PySem.W.makesIn K C_House = true)
    (kc_House : PySem.W.keepIn K (.ref C_House) = true)
    (n_House_jug_sizes : PySem.W.findIn K (.ref C_House) "jug_sizes" = some none)
    (n_House_tap : PySem.W.findIn K (.ref C_House) "tap" = some none)
    (hn : PySem.W.specialIn K (.builtin "object.__class__") "__get__" = some (some (.builtin "getset_descriptor.__get__")))
    (htk : PySem.W.takesIn K (.builtin "object.__class__") = some true)
    (k_Fill_Pour : PySem.W.kitOne K (.ref C_Fill) (.ref C_Pour) = some false)
    (k_Empty_Pour : PySem.W.kitOne K (.ref C_Empty) (.ref C_Pour) = some false)
    (k_Empty_Fill : PySem.W.kitOne K (.ref C_Empty) (.ref C_Fill) = some false)
    (a0 : PySem.W.nsIn K mainGlobals "is_number" = some (some (.ref f0)))
    (l0 : K.lookup f0 = some ⟨oc0, od0, .func (PySem.W.fnOf "is_number" "is_number" (defArgs s_is_number) (defBody s_is_number) (defScope s_is_number) .none kV0 dc0 pm0 an0 cd0 ct0), sl0⟩)
    (c0 : PySem.W.codeIn K cd0 "is_number" = true)
    (kp0 : PySem.W.keepIn K (.ref f0) = true)
    (a1 : PySem.W.nsIn K mainGlobals "is_jug" = some (some (.ref f1)))
    (l1 : K.lookup f1 = some ⟨oc1, od1, .func (PySem.W.fnOf "is_jug" "is_jug" (defArgs s_is_jug) (defBody s_is_jug) (defScope s_is_jug) .none kV1 dc1 pm1 an1 cd1 ct1), sl1⟩)
    (c1 : PySem.W.codeIn K cd1 "is_jug" = true)
    (kp1 : PySem.W.keepIn K (.ref f1) = true)
    (a2_House : PySem.W.findIn K (.ref C_House) "sizes" = some (some (.ref f2)))
    (i2 : PySem.W.isFn K (.ref f2) = true)
    (l2 : K.lookup f2 = some ⟨oc2, od2, .func (PySem.W.fnOf "sizes" "House.sizes" (defArgs s_House_sizes) (defBody s_House_sizes) (defScope s_House_sizes) .none kV2 dc2 pm2 an2 cd2 ct2), sl2⟩)
    (c2 : PySem.W.codeIn K cd2 "House.sizes" = true)
    (kp2 : PySem.W.keepIn K (.ref f2) = true)
    (a3 : PySem.W.nsIn K mainGlobals "held_in" = some (some (.ref f3)))
    (l3 : K.lookup f3 = some ⟨oc3, od3, .func (PySem.W.fnOf "held_in" "held_in" (defArgs s_held_in) (defBody s_held_in) (defScope s_held_in) .none kV3 dc3 pm3 an3 cd3 ct3), sl3⟩)
    (c3 : PySem.W.codeIn K cd3 "held_in" = true)
    (kp3 : PySem.W.keepIn K (.ref f3) = true)
    (a4 : PySem.W.nsIn K mainGlobals "with_amount" = some (some (.ref f4)))
    (l4 : K.lookup f4 = some ⟨oc4, od4, .func (PySem.W.fnOf "with_amount" "with_amount" (defArgs s_with_amount) (defBody s_with_amount) (defScope s_with_amount) .none kV4 dc4 pm4 an4 cd4 ct4), sl4⟩)
    (c4 : PySem.W.codeIn K cd4 "with_amount" = true)
    (kp4 : PySem.W.keepIn K (.ref f4) = true)
    (a5 : PySem.W.nsIn K mainGlobals "check_jug" = some (some (.ref f5)))
    (l5 : K.lookup f5 = some ⟨oc5, od5, .func (PySem.W.fnOf "check_jug" "check_jug" (defArgs s_check_jug) (defBody s_check_jug) (defScope s_check_jug) .none kV5 dc5 pm5 an5 cd5 ct5), sl5⟩)
    (c5 : PySem.W.codeIn K cd5 "check_jug" = true)
    (kp5 : PySem.W.keepIn K (.ref f5) = true)
    (a6 : PySem.W.nsIn K mainGlobals "check_house_has" = some (some (.ref f6)))
    (l6 : K.lookup f6 = some ⟨oc6, od6, .func (PySem.W.fnOf "check_house_has" "check_house_has" (defArgs s_check_house_has) (defBody s_check_house_has) (defScope s_check_house_has) .none kV6 dc6 pm6 an6 cd6 ct6), sl6⟩)
    (c6 : PySem.W.codeIn K cd6 "check_house_has" = true)
    (kp6 : PySem.W.keepIn K (.ref f6) = true)
    (a7 : PySem.W.nsIn K mainGlobals "check_house_can_tap" = some (some (.ref f7)))
    (l7 : K.lookup f7 = some ⟨oc7, od7, .func (PySem.W.fnOf "check_house_can_tap" "check_house_can_tap" (defArgs s_check_house_can_tap) (defBody s_check_house_can_tap) (defScope s_check_house_can_tap) .none kV7 dc7 pm7 an7 cd7 ct7), sl7⟩)
    (c7 : PySem.W.codeIn K cd7 "check_house_can_tap" = true)
    (kp7 : PySem.W.keepIn K (.ref f7) = true)
    (a8_Pour : PySem.W.findIn K (.ref C_Pour) "__init__" = some (some (.ref f8)))
    (i8 : PySem.W.isFn K (.ref f8) = true)
    (l8 : K.lookup f8 = some ⟨oc8, od8, .func (PySem.W.fnOf "__init__" "Pour.__init__" (defArgs s_Pour_init) (defBody s_Pour_init) (defScope s_Pour_init) .none kV8 dc8 pm8 an8 cd8 ct8), sl8⟩)
    (c8 : PySem.W.codeIn K cd8 "Pour.__init__" = true)
    (kp8 : PySem.W.keepIn K (.ref f8) = true)
    (a9_Fill : PySem.W.findIn K (.ref C_Fill) "__init__" = some (some (.ref f9)))
    (i9 : PySem.W.isFn K (.ref f9) = true)
    (l9 : K.lookup f9 = some ⟨oc9, od9, .func (PySem.W.fnOf "__init__" "Fill.__init__" (defArgs s_Fill_init) (defBody s_Fill_init) (defScope s_Fill_init) .none kV9 dc9 pm9 an9 cd9 ct9), sl9⟩)
    (c9 : PySem.W.codeIn K cd9 "Fill.__init__" = true)
    (kp9 : PySem.W.keepIn K (.ref f9) = true)
    (a10_Empty : PySem.W.findIn K (.ref C_Empty) "__init__" = some (some (.ref f10)))
    (i10 : PySem.W.isFn K (.ref f10) = true)
    (l10 : K.lookup f10 = some ⟨oc10, od10, .func (PySem.W.fnOf "__init__" "Empty.__init__" (defArgs s_Empty_init) (defBody s_Empty_init) (defScope s_Empty_init) .none kV10 dc10 pm10 an10 cd10 ct10), sl10⟩)
    (c10 : PySem.W.codeIn K cd10 "Empty.__init__" = true)
    (kp10 : PySem.W.keepIn K (.ref f10) = true)
    (a11_Pour : PySem.W.findIn K (.ref C_Pour) "held_behind" = some (some (.ref f11)))
    (i11 : PySem.W.isFn K (.ref f11) = true)
    (l11 : K.lookup f11 = some ⟨oc11, od11, .func (PySem.W.fnOf "held_behind" "Pour.held_behind" (defArgs s_Pour_held_behind) (defBody s_Pour_held_behind) (defScope s_Pour_held_behind) .none kV11 dc11 pm11 an11 cd11 ct11), sl11⟩)
    (c11 : PySem.W.codeIn K cd11 "Pour.held_behind" = true)
    (kp11 : PySem.W.keepIn K (.ref f11) = true)
    (a12_Fill : PySem.W.findIn K (.ref C_Fill) "held_behind" = some (some (.ref f12)))
    (i12 : PySem.W.isFn K (.ref f12) = true)
    (l12 : K.lookup f12 = some ⟨oc12, od12, .func (PySem.W.fnOf "held_behind" "Fill.held_behind" (defArgs s_Fill_held_behind) (defBody s_Fill_held_behind) (defScope s_Fill_held_behind) .none kV12 dc12 pm12 an12 cd12 ct12), sl12⟩)
    (c12 : PySem.W.codeIn K cd12 "Fill.held_behind" = true)
    (kp12 : PySem.W.keepIn K (.ref f12) = true)
    (a13_Empty : PySem.W.findIn K (.ref C_Empty) "held_behind" = some (some (.ref f13)))
    (i13 : PySem.W.isFn K (.ref f13) = true)
    (l13 : K.lookup f13 = some ⟨oc13, od13, .func (PySem.W.fnOf "held_behind" "Empty.held_behind" (defArgs s_Empty_held_behind) (defBody s_Empty_held_behind) (defScope s_Empty_held_behind) .none kV13 dc13 pm13 an13 cd13 ct13), sl13⟩)
    (c13 : PySem.W.codeIn K cd13 "Empty.held_behind" = true)
    (kp13 : PySem.W.keepIn K (.ref f13) = true)
    (a14_Pour : PySem.W.findIn K (.ref C_Pour) "done" = some (some (.ref f14)))
    (a14_Fill : PySem.W.findIn K (.ref C_Fill) "done" = some (some (.ref f14)))
    (a14_Empty : PySem.W.findIn K (.ref C_Empty) "done" = some (some (.ref f14)))
    (i14 : PySem.W.isFn K (.ref f14) = true)
    (l14 : K.lookup f14 = some ⟨oc14, od14, .func (PySem.W.fnOf "done" "Move.done" (defArgs s_Move_done) (defBody s_Move_done) (defScope s_Move_done) .none kV14 dc14 pm14 an14 cd14 ct14), sl14⟩)
    (c14 : PySem.W.codeIn K cd14 "Move.done" = true)
    (kp14 : PySem.W.keepIn K (.ref f14) = true)
    (a15 : PySem.W.nsIn K mainGlobals "count_states" = some (some (.ref f15)))
    (l15 : K.lookup f15 = some ⟨oc15, od15, .func (PySem.W.fnOf "count_states" "count_states" (defArgs s_count_states) (defBody s_count_states) (defScope s_count_states) .none kV15 dc15 pm15 an15 cd15 ct15), sl15⟩)
    (c15 : PySem.W.codeIn K cd15 "count_states" = true)
    (kp15 : PySem.W.keepIn K (.ref f15) = true)
    (a16 : PySem.W.nsIn K mainGlobals "sizes_in" = some (some (.ref f16)))
    (l16 : K.lookup f16 = some ⟨oc16, od16, .func (PySem.W.fnOf "sizes_in" "sizes_in" (defArgs s_sizes_in) (defBody s_sizes_in) (defScope s_sizes_in) .none kV16 dc16 pm16 an16 cd16 ct16), sl16⟩)
    (c16 : PySem.W.codeIn K cd16 "sizes_in" = true)
    (kp16 : PySem.W.keepIn K (.ref f16) = true)
    (a17_House : PySem.W.findIn K (.ref C_House) "__init__" = some (some (.ref f17)))
    (i17 : PySem.W.isFn K (.ref f17) = true)
    (l17 : K.lookup f17 = some ⟨oc17, od17, .func (PySem.W.fnOf "__init__" "House.__init__" (defArgs s_House_init) (defBody s_House_init) (defScope s_House_init) .none kV17 dc17 pm17 an17 cd17 ct17), sl17⟩)
    (c17 : PySem.W.codeIn K cd17 "House.__init__" = true)
    (kp17 : PySem.W.keepIn K (.ref f17) = true)
    (a18 : PySem.W.nsIn K mainGlobals "pours_among" = some (some (.ref f18)))
    (l18 : K.lookup f18 = some ⟨oc18, od18, .func (PySem.W.fnOf "pours_among" "pours_among" (defArgs s_pours_among) (defBody s_pours_among) (defScope s_pours_among) .none kV18 dc18 pm18 an18 cd18 ct18), sl18⟩)
    (c18 : PySem.W.codeIn K cd18 "pours_among" = true)
    (kp18 : PySem.W.keepIn K (.ref f18) = true)
    (a19_House : PySem.W.findIn K (.ref C_House) "moves" = some (some (.ref f19)))
    (i19 : PySem.W.isFn K (.ref f19) = true)
    (l19 : K.lookup f19 = some ⟨oc19, od19, .func (PySem.W.fnOf "moves" "House.moves" (defArgs s_House_moves) (defBody s_House_moves) (defScope s_House_moves) .none kV19 dc19 pm19 an19 cd19 ct19), sl19⟩)
    (c19 : PySem.W.codeIn K cd19 "House.moves" = true)
    (kp19 : PySem.W.keepIn K (.ref f19) = true)
    (a20 : PySem.W.nsIn K mainGlobals "ways_from" = some (some (.ref f20)))
    (l20 : K.lookup f20 = some ⟨oc20, od20, .func (PySem.W.fnOf "ways_from" "ways_from" (defArgs s_ways_from) (defBody s_ways_from) (defScope s_ways_from) .none kV20 dc20 pm20 an20 cd20 ct20), sl20⟩)
    (c20 : PySem.W.codeIn K cd20 "ways_from" = true)
    (kp20 : PySem.W.keepIn K (.ref f20) = true)
    (a21 : PySem.W.nsIn K mainGlobals "reached" = some (some (.ref f21)))
    (l21 : K.lookup f21 = some ⟨oc21, od21, .func (PySem.W.fnOf "reached" "reached" (defArgs s_reached) (defBody s_reached) (defScope s_reached) .none kV21 dc21 pm21 an21 cd21 ct21), sl21⟩)
    (c21 : PySem.W.codeIn K cd21 "reached" = true)
    (kp21 : PySem.W.keepIn K (.ref f21) = true)
    (a22 : PySem.W.nsIn K mainGlobals "measured" = some (some (.ref f22)))
    (l22 : K.lookup f22 = some ⟨oc22, od22, .func (PySem.W.fnOf "measured" "measured" (defArgs s_measured) (defBody s_measured) (defScope s_measured) .none kV22 dc22 pm22 an22 cd22 ct22), sl22⟩)
    (c22 : PySem.W.codeIn K cd22 "measured" = true)
    (kp22 : PySem.W.keepIn K (.ref f22) = true)
    (a23 : PySem.W.nsIn K mainGlobals "tied" = some (some (.ref f23)))
    (l23 : K.lookup f23 = some ⟨oc23, od23, .func (PySem.W.fnOf "tied" "tied" (defArgs s_tied) (defBody s_tied) (defScope s_tied) .none kV23 dc23 pm23 an23 cd23 ct23), sl23⟩)
    (c23 : PySem.W.codeIn K cd23 "tied" = true)
    (kp23 : PySem.W.keepIn K (.ref f23) = true)
    (a24 : PySem.W.nsIn K mainGlobals "_law_cell_at" = some (some (.ref f24)))
    (l24 : K.lookup f24 = some ⟨oc24, od24, .func (PySem.W.fnOf "_law_cell_at" "_law_cell_at" (defArgs s__law_cell_at) (defBody s__law_cell_at) (defScope s__law_cell_at) .none kV24 dc24 pm24 an24 cd24 ct24), sl24⟩)
    (c24 : PySem.W.codeIn K cd24 "_law_cell_at" = true)
    (kp24 : PySem.W.keepIn K (.ref f24) = true)
    (a25 : PySem.W.nsIn K mainGlobals "_law_draw" = some (some (.ref f25)))
    (l25 : K.lookup f25 = some ⟨oc25, od25, .func (PySem.W.fnOf "_law_draw" "_law_draw" (defArgs s__law_draw) (defBody s__law_draw) (defScope s__law_draw) .none kV25 dc25 pm25 an25 cd25 ct25), sl25⟩)
    (c25 : PySem.W.codeIn K cd25 "_law_draw" = true)
    (kp25 : PySem.W.keepIn K (.ref f25) = true)
    (a26 : PySem.W.nsIn K mainGlobals "_law_sizes" = some (some (.ref f26)))
    (l26 : K.lookup f26 = some ⟨oc26, od26, .func (PySem.W.fnOf "_law_sizes" "_law_sizes" (defArgs s__law_sizes) (defBody s__law_sizes) (defScope s__law_sizes) .none kV26 dc26 pm26 an26 cd26 ct26), sl26⟩)
    (c26 : PySem.W.codeIn K cd26 "_law_sizes" = true)
    (kp26 : PySem.W.keepIn K (.ref f26) = true)
    (a27 : PySem.W.nsIn K mainGlobals "_law_state" = some (some (.ref f27)))
    (l27 : K.lookup f27 = some ⟨oc27, od27, .func (PySem.W.fnOf "_law_state" "_law_state" (defArgs s__law_state) (defBody s__law_state) (defScope s__law_state) .none kV27 dc27 pm27 an27 cd27 ct27), sl27⟩)
    (c27 : PySem.W.codeIn K cd27 "_law_state" = true)
    (kp27 : PySem.W.keepIn K (.ref f27) = true)
    (a28 : PySem.W.nsIn K mainGlobals "_law_all_moves" = some (some (.ref f28)))
    (l28 : K.lookup f28 = some ⟨oc28, od28, .func (PySem.W.fnOf "_law_all_moves" "_law_all_moves" (defArgs s__law_all_moves) (defBody s__law_all_moves) (defScope s__law_all_moves) .none kV28 dc28 pm28 an28 cd28 ct28), sl28⟩)
    (c28 : PySem.W.codeIn K cd28 "_law_all_moves" = true)
    (kp28 : PySem.W.keepIn K (.ref f28) = true)
    (a29 : PySem.W.nsIn K mainGlobals "_law_behind" = some (some (.ref f29)))
    (l29 : K.lookup f29 = some ⟨oc29, od29, .func (PySem.W.fnOf "_law_behind" "_law_behind" (defArgs s__law_behind) (defBody s__law_behind) (defScope s__law_behind) .none kV29 dc29 pm29 an29 cd29 ct29), sl29⟩)
    (c29 : PySem.W.codeIn K cd29 "_law_behind" = true)
    (kp29 : PySem.W.keepIn K (.ref f29) = true)
    (a30 : PySem.W.nsIn K mainGlobals "_law_reached" = some (some (.ref f30)))
    (l30 : K.lookup f30 = some ⟨oc30, od30, .func (PySem.W.fnOf "_law_reached" "_law_reached" (defArgs s__law_reached) (defBody s__law_reached) (defScope s__law_reached) .none kV30 dc30 pm30 an30 cd30 ct30), sl30⟩)
    (c30 : PySem.W.codeIn K cd30 "_law_reached" = true)
    (kp30 : PySem.W.keepIn K (.ref f30) = true)
    (a31 : PySem.W.nsIn K mainGlobals "law" = some (some (.ref f31)))
    (l31 : K.lookup f31 = some ⟨oc31, od31, .func (PySem.W.fnOf "law" "law" (defArgs s_law) (defBody s_law) (defScope s_law) .none kV31 dc31 pm31 an31 cd31 ct31), sl31⟩)
    (c31 : PySem.W.codeIn K cd31 "law" = true)
    (kp31 : PySem.W.keepIn K (.ref f31) = true)
    : ∃ fd : FuncData, (∀ (s : Shared) (v : Value), BindsTo s fd ⟨[v], []⟩ [("_law_script", v)]) ∧ ∀ base : Heap, K.In base → base.Ns mainGlobals mg → FnOk l.prog w K mg base CX0 10 fa fd ["_law_script"] (spLaw K) := by
  have e := hfa.symm.trans (PySem.W.mg_of X G a31)
  cases e
  have F0 := fun_mk (st := s_is_number) l0 c0 kp0
  have b0 := F0.binds (ps := ["value", "least", "most"]) fun _ _ _ _ _ _ us hl => by obtain ⟨_, _, _, rfl⟩ := len3 hl; rfl
  have F1 := fun_mk (st := s_is_jug) l1 c1 kp1
  have b1 := F1.binds (ps := ["value"]) fun _ _ _ _ _ _ us hl => by obtain ⟨_, rfl⟩ := len1 hl; rfl
  have F2 := fun_mk (st := s_House_sizes) l2 c2 kp2
  have b2 := F2.binds (ps := ["self"]) fun _ _ _ _ _ _ us hl => by obtain ⟨_, rfl⟩ := len1 hl; rfl
  have F3 := fun_mk (st := s_held_in) l3 c3 kp3
  have b3 := F3.binds (ps := ["house", "state"]) fun _ _ _ _ _ _ us hl => by obtain ⟨_, _, rfl⟩ := len2 hl; rfl
  have F4 := fun_mk (st := s_with_amount) l4 c4 kp4
  have b4 := F4.binds (ps := ["held", "jug", "many"]) fun _ _ _ _ _ _ us hl => by obtain ⟨_, _, _, rfl⟩ := len3 hl; rfl
  have F5 := fun_mk (st := s_check_jug) l5 c5 kp5
  have b5 := F5.binds (ps := ["jug"]) fun _ _ _ _ _ _ us hl => by obtain ⟨_, rfl⟩ := len1 hl; rfl
  have F6 := fun_mk (st := s_check_house_has) l6 c6 kp6
  have b6 := F6.binds (ps := ["house", "jug"]) fun _ _ _ _ _ _ us hl => by obtain ⟨_, _, rfl⟩ := len2 hl; rfl
  have F7 := fun_mk (st := s_check_house_can_tap) l7 c7 kp7
  have b7 := F7.binds (ps := ["house", "jug"]) fun _ _ _ _ _ _ us hl => by obtain ⟨_, _, rfl⟩ := len2 hl; rfl
  have F8 := fun_mk (st := s_Pour_init) l8 c8 kp8
  have b8 := F8.binds (ps := ["self", "one", "other"]) fun _ _ _ _ _ _ us hl => by obtain ⟨_, _, _, rfl⟩ := len3 hl; rfl
  have F9 := fun_mk (st := s_Fill_init) l9 c9 kp9
  have b9 := F9.binds (ps := ["self", "jug"]) fun _ _ _ _ _ _ us hl => by obtain ⟨_, _, rfl⟩ := len2 hl; rfl
  have F10 := fun_mk (st := s_Empty_init) l10 c10 kp10
  have b10 := F10.binds (ps := ["self", "jug"]) fun _ _ _ _ _ _ us hl => by obtain ⟨_, _, rfl⟩ := len2 hl; rfl
  have F11 := fun_mk (st := s_Pour_held_behind) l11 c11 kp11
  have b11 := F11.binds (ps := ["self", "house", "held"]) fun _ _ _ _ _ _ us hl => by obtain ⟨_, _, _, rfl⟩ := len3 hl; rfl
  have F12 := fun_mk (st := s_Fill_held_behind) l12 c12 kp12
  have b12 := F12.binds (ps := ["self", "house", "held"]) fun _ _ _ _ _ _ us hl => by obtain ⟨_, _, _, rfl⟩ := len3 hl; rfl
  have F13 := fun_mk (st := s_Empty_held_behind) l13 c13 kp13
  have b13 := F13.binds (ps := ["self", "house", "held"]) fun _ _ _ _ _ _ us hl => by obtain ⟨_, _, _, rfl⟩ := len3 hl; rfl
  have F14 := fun_mk (st := s_Move_done) l14 c14 kp14
  have b14 := F14.binds (ps := ["self", "house", "state"]) fun _ _ _ _ _ _ us hl => by obtain ⟨_, _, _, rfl⟩ := len3 hl; rfl
  have F15 := fun_mk (st := s_count_states) l15 c15 kp15
  have b15 := F15.binds (ps := ["sizes"]) fun _ _ _ _ _ _ us hl => by obtain ⟨_, rfl⟩ := len1 hl; rfl
  have F16 := fun_mk (st := s_sizes_in) l16 c16 kp16
  have b16 := F16.binds (ps := ["sizes"]) fun _ _ _ _ _ _ us hl => by obtain ⟨_, rfl⟩ := len1 hl; rfl
  have F17 := fun_mk (st := s_House_init) l17 c17 kp17
  have b17 := F17.binds (ps := ["self", "sizes", "tap"]) fun _ _ _ _ _ _ us hl => by obtain ⟨_, _, _, rfl⟩ := len3 hl; rfl
  have F18 := fun_mk (st := s_pours_among) l18 c18 kp18
  have b18 := F18.binds (ps := ["many"]) fun _ _ _ _ _ _ us hl => by obtain ⟨_, rfl⟩ := len1 hl; rfl
  have F19 := fun_mk (st := s_House_moves) l19 c19 kp19
  have b19 := F19.binds (ps := ["self"]) fun _ _ _ _ _ _ us hl => by obtain ⟨_, rfl⟩ := len1 hl; rfl
  have F20 := fun_mk (st := s_ways_from) l20 c20 kp20
  have b20 := F20.binds (ps := ["house", "state"]) fun _ _ _ _ _ _ us hl => by obtain ⟨_, _, rfl⟩ := len2 hl; rfl
  have F21 := fun_mk (st := s_reached) l21 c21 kp21
  have b21 := F21.binds (ps := ["house", "state"]) fun _ _ _ _ _ _ us hl => by obtain ⟨_, _, rfl⟩ := len2 hl; rfl
  have F22 := fun_mk (st := s_measured) l22 c22 kp22
  have b22 := F22.binds (ps := ["house", "state"]) fun _ _ _ _ _ _ us hl => by obtain ⟨_, _, rfl⟩ := len2 hl; rfl
  have F23 := fun_mk (st := s_tied) l23 c23 kp23
  have b23 := F23.binds (ps := ["house", "one", "other"]) fun _ _ _ _ _ _ us hl => by obtain ⟨_, _, _, rfl⟩ := len3 hl; rfl
  have F24 := fun_mk (st := s__law_cell_at) l24 c24 kp24
  have b24 := F24.binds (ps := ["_law_script", "_law_k"]) fun _ _ _ _ _ _ us hl => by obtain ⟨_, _, rfl⟩ := len2 hl; rfl
  have F25 := fun_mk (st := s__law_draw) l25 c25 kp25
  have b25 := F25.binds (ps := ["_law_cell", "_law_k", "_law_many"]) fun _ _ _ _ _ _ us hl => by obtain ⟨_, _, _, rfl⟩ := len3 hl; rfl
  have F26 := fun_mk (st := s__law_sizes) l26 c26 kp26
  have b26 := F26.binds (ps := ["_law_cell"]) fun _ _ _ _ _ _ us hl => by obtain ⟨_, rfl⟩ := len1 hl; rfl
  have F27 := fun_mk (st := s__law_state) l27 c27 kp27
  have b27 := F27.binds (ps := ["_law_cell", "_law_sizes_here"]) fun _ _ _ _ _ _ us hl => by obtain ⟨_, _, rfl⟩ := len2 hl; rfl
  have F28 := fun_mk (st := s__law_all_moves) l28 c28 kp28
  have b28 := F28.binds (ps := ["_law_sizes_here", "_law_tap"]) fun _ _ _ _ _ _ us hl => by obtain ⟨_, _, rfl⟩ := len2 hl; rfl
  have F29 := fun_mk (st := s__law_behind) l29 c29 kp29
  have b29 := F29.binds (ps := ["_law_sizes_here", "_law_state_here", "_law_told"]) fun _ _ _ _ _ _ us hl => by obtain ⟨_, _, _, rfl⟩ := len3 hl; rfl
  have F30 := fun_mk (st := s__law_reached) l30 c30 kp30
  have b30 := F30.binds (ps := ["_law_sizes_here", "_law_tap", "_law_state_here"]) fun _ _ _ _ _ _ us hl => by obtain ⟨_, _, _, rfl⟩ := len3 hl; rfl
  have F31 := fun_mk (st := s_law) l31 c31 kp31
  have b31 := F31.binds (ps := ["_law_script"]) fun _ _ _ _ _ _ us hl => by obtain ⟨_, rfl⟩ := len1 hl; rfl
  have g := fun {x : Str} {v : Value} (q : PySem.W.nsIn K mainGlobals x = some (some v)) => PySem.W.mg_of X G q
  have g0 := fun {x : Str} (q : PySem.W.nsIn K mainGlobals x = some none) => PySem.W.mg_none_of X G q
  have B : Bt mg := ⟨g0 z_isinstance, g0 z_int, g0 z_bool, g0 z_tuple, g0 z_list, g0 z_len, g0 z_zip, g0 z_range, g0 z_min, g0 z_str, ⟨_, g z_MOST_JUGS⟩, ⟨_, g z_MOST_SIZE⟩⟩
  have cl_Pour : Cls K C_Pour := ⟨pg_Pour, hd_Pour, po_Pour, sa_Pour⟩
  have cl_Fill : Cls K C_Fill := ⟨pg_Fill, hd_Fill, po_Fill, sa_Fill⟩
  have cl_Empty : Cls K C_Empty := ⟨pg_Empty, hd_Empty, po_Empty, sa_Empty⟩
  have cl_House : Cls K C_House := ⟨pg_House, hd_House, po_House, sa_House⟩
  have CHo : CHs K C_House := ⟨cl_House, n_House_jug_sizes, n_House_tap⟩
  let Zz : Cz := ⟨C_Pour, C_Fill, C_Empty⟩
  have M : MvC K mg Zz := ⟨⟨cl_Pour, n_Pour_one, n_Pour_other⟩, ⟨cl_Fill, n_Fill_jug⟩, ⟨cl_Empty, n_Empty_jug⟩, ⟨ha_Pour, hn, htk, hm_Pour⟩, ⟨ha_Fill, hn, htk, hm_Fill⟩, ⟨ha_Empty, hn, htk, hm_Empty⟩, g a_Pour, g a_Fill, g a_Empty, k_Fill_Pour, k_Empty_Pour, k_Empty_Fill⟩
  refine ⟨PySem.W.fnOf "law" "law" (defArgs s_law) (defBody s_law) (defScope s_law) .none kV31 dc31 pm31 an31 cd31 ct31, fun s v => .of_eq rfl, fun base _ _ => ?_⟩
  have o0 := ok_is_number (P := l.prog) (w := w) (base := base) F0 B
  have q0 : FnB l.prog w K mg base 1 "is_number" ["value", "least", "most"] _ := ⟨_, _, o0, g a0, kp0, b0⟩
  have o1 := ok_is_jug F1 B q0
  have q1 : FnB l.prog w K mg base 2 "is_jug" ["value"] _ := ⟨_, _, o1, g a1, kp1, b1⟩
  have o2 := ok_sizes (P := l.prog) (w := w) (base := base) F2 B CHo
  have q2 : MeB l.prog w K mg base 1 C_House "sizes" ["self"] _ := ⟨_, _, o2, ⟨a2_House, i2, kp2⟩, b2, cl_House⟩
  have o3 := ok_held_in F3 B q0 q2
  have q3 : FnB l.prog w K mg base 2 "held_in" ["house", "state"] _ := ⟨_, _, o3, g a3, kp3, b3⟩
  have o4 := ok_with_amount (P := l.prog) (w := w) (base := base) F4 B
  have q4 : FnB l.prog w K mg base 1 "with_amount" ["held", "jug", "many"] _ := ⟨_, _, o4, g a4, kp4, b4⟩
  have o5 := ok_check_jug F5 q1
  have q5 : FnB l.prog w K mg base 3 "check_jug" ["jug"] _ := ⟨_, _, o5, g a5, kp5, b5⟩
  have o6 := ok_check_house_has F6 B q2
  have q6 : FnB l.prog w K mg base 2 "check_house_has" ["house", "jug"] _ := ⟨_, _, o6, g a6, kp6, b6⟩
  have o7 := ok_check_house_can_tap F7 CHo q6
  have q7 : FnB l.prog w K mg base 3 "check_house_can_tap" ["house", "jug"] _ := ⟨_, _, o7, g a7, kp7, b7⟩
  have o8 := ok_Pour_init (Z := Zz) F8 M.po q5
  have q8 : MkB l.prog w K mg base 4 "Pour" C_Pour ["self", "one", "other"] _ := ⟨_, _, o8, g a_Pour, ⟨mk_Pour, a8_Pour, i8, kc_Pour⟩, b8⟩
  have o9 := ok_Fill_init (Z := Zz) F9 M.fi q5
  have q9 : MkB l.prog w K mg base 4 "Fill" C_Fill ["self", "jug"] _ := ⟨_, _, o9, g a_Fill, ⟨mk_Fill, a9_Fill, i9, kc_Fill⟩, b9⟩
  have o10 := ok_Empty_init (Z := Zz) F10 M.em q5
  have q10 : MkB l.prog w K mg base 4 "Empty" C_Empty ["self", "jug"] _ := ⟨_, _, o10, g a_Empty, ⟨mk_Empty, a10_Empty, i10, kc_Empty⟩, b10⟩
  have o11 := (ok_Pour_hb (Z := Zz) F11 B M.po q6 q2 q4).mono (k := 4) (by decide)
  have q11 : MeB l.prog w K mg base 4 C_Pour "held_behind" ["self", "house", "held"] _ := ⟨_, _, o11, ⟨a11_Pour, i11, kp11⟩, b11, cl_Pour⟩
  have o12 := ok_Fill_hb (Z := Zz) F12 B M.fi q7 q2 q4
  have q12 : MeB l.prog w K mg base 4 C_Fill "held_behind" ["self", "house", "held"] _ := ⟨_, _, o12, ⟨a12_Fill, i12, kp12⟩, b12, cl_Fill⟩
  have o13 := ok_Empty_hb (Z := Zz) F13 B M.em q7 q4
  have q13 : MeB l.prog w K mg base 4 C_Empty "held_behind" ["self", "house", "held"] _ := ⟨_, _, o13, ⟨a13_Empty, i13, kp13⟩, b13, cl_Empty⟩
  have o14 := ok_done (Z := Zz) F14 B q3 q11 q12 q13
  have q14_Pour : MeB l.prog w K mg base 5 C_Pour "done" ["self", "house", "state"] _ := ⟨_, _, o14, ⟨a14_Pour, i14, kp14⟩, b14, cl_Pour⟩
  have q14_Fill : MeB l.prog w K mg base 5 C_Fill "done" ["self", "house", "state"] _ := ⟨_, _, o14, ⟨a14_Fill, i14, kp14⟩, b14, cl_Fill⟩
  have q14_Empty : MeB l.prog w K mg base 5 C_Empty "done" ["self", "house", "state"] _ := ⟨_, _, o14, ⟨a14_Empty, i14, kp14⟩, b14, cl_Empty⟩
  have o15 := ok_count_states (P := l.prog) (w := w) (mg := mg) (base := base) F15
  have q15 : FnB l.prog w K mg base 1 "count_states" ["sizes"] _ := ⟨_, _, o15, g a15, kp15, b15⟩
  have o16 := ok_sizes_in F16 B ⟨_, g z_MOST_STATES⟩ q0 q15
  have q16 : FnB l.prog w K mg base 2 "sizes_in" ["sizes"] _ := ⟨_, _, o16, g a16, kp16, b16⟩
  have o17 := ok_House_init F17 B CHo q16
  have q17 : MkB l.prog w K mg base 3 "House" C_House ["self", "sizes", "tap"] _ := ⟨_, _, o17, g a_House, ⟨mk_House, a17_House, i17, kc_House⟩, b17⟩
  have o18 := ok_pours_among (Z := Zz) F18 B q8
  have q18 : FnB l.prog w K mg base 6 "pours_among" ["many"] _ := ⟨_, _, o18, g a18, kp18, b18⟩
  have o19 := ok_moves (Z := Zz) F19 B CHo q18 q9 q10
  have q19 : MeB l.prog w K mg base 7 C_House "moves" ["self"] _ := ⟨_, _, o19, ⟨a19_House, i19, kp19⟩, b19, cl_House⟩
  have o20 := ok_ways (Z := Zz) F20 B q3 q19 (anyC q14_Pour q14_Fill q14_Empty)
  have q20 : FnB l.prog w K mg base 8 "ways_from" ["house", "state"] _ := ⟨_, _, o20, g a20, kp20, b20⟩
  have o21 := ok_reached (Z := Zz) F21 (g0 z_sorted) q20
  have q21 : FnB l.prog w K mg base 9 "reached" ["house", "state"] _ := ⟨_, _, o21, g a21, kp21, b21⟩
  have o22 := ok_measured (Z := Zz) F22 (g0 z_sorted) q20
  have q22 : FnB l.prog w K mg base 9 "measured" ["house", "state"] _ := ⟨_, _, o22, g a22, kp22, b22⟩
  have o23 := ok_tied (Z := Zz) F23 B q3 q20
  have q23 : FnB l.prog w K mg base 9 "tied" ["house", "one", "other"] _ := ⟨_, _, o23, g a23, kp23, b23⟩
  have o24 := ok_cell_at (P := l.prog) (w := w) (base := base) F24 B
  have q24 : FnB l.prog w K mg base 1 "_law_cell_at" ["_law_script", "_law_k"] _ := ⟨_, _, o24, g a24, kp24, b24⟩
  have o25 := ok_draw (P := l.prog) (w := w) (mg := mg) (base := base) F25
  have q25 : FnB l.prog w K mg base 1 "_law_draw" ["_law_cell", "_law_k", "_law_many"] _ := ⟨_, _, o25, g a25, kp25, b25⟩
  have o26 := ok_law_sizes F26 B q25
  have q26 : FnB l.prog w K mg base 2 "_law_sizes" ["_law_cell"] _ := ⟨_, _, o26, g a26, kp26, b26⟩
  have o27 := ok_law_state F27 B q25
  have q27 : FnB l.prog w K mg base 2 "_law_state" ["_law_cell", "_law_sizes_here"] _ := ⟨_, _, o27, g a27, kp27, b27⟩
  have o28 := ok_all_moves (P := l.prog) (w := w) (base := base) F28 B
  have q28 : FnB l.prog w K mg base 1 "_law_all_moves" ["_law_sizes_here", "_law_tap"] _ := ⟨_, _, o28, g a28, kp28, b28⟩
  have o29 := ok_behind2 (P := l.prog) (w := w) (base := base) F29 B
  have q29 : FnB l.prog w K mg base 1 "_law_behind" ["_law_sizes_here", "_law_state_here", "_law_told"] _ := ⟨_, _, o29, g a29, kp29, b29⟩
  have o30 := ok_lreached F30 B (g0 z_sorted) q28 q29
  have q30 : FnB l.prog w K mg base 2 "_law_reached" ["_law_sizes_here", "_law_tap", "_law_state_here"] _ := ⟨_, _, o30, g a30, kp30, b30⟩
  exact ok_law2 F31 B (g0 z_sorted) (g0 z_any) q25 q24 q26 q27 q30 q17 q21 q22 q23
theorem walk {l : PySem.W.OpenLaw} {q : Program} {loose : List Str} {XP : (Str → Option Value) → Heap → Prop} {YP : World → Heap → Prop} {d : DefRec} {K : Params → PySem.W.Frag} (hn : l.most = some 63) (hdf : d.params.defaults = [])
    (hY : ∀ (w : World) (h : Heap), YP w h → (K w.params).In h)
    (F : ∀ (w : World) (mg : Str → Option Value) (fa : Addr) (h : Heap), (K w.params).In h → h.Ns mainGlobals mg → mg d.name = some (.ref fa) →
      ∃ fd : FuncData, (∀ (s : Shared) (u : Value), BindsTo s fd ⟨[u], []⟩ [("_law_script", u)]) ∧ ∀ base : Heap, (K w.params).In base → base.Ns mainGlobals mg → FnOk l.prog w (K w.params) mg base CX0 10 fa fd ["_law_script"] (spLaw (K w.params))) :
    PySem.W.WalkO q loose XP YP l.row.toRowW d [] (fun f vs => PySem.call f vs) :=
  L2.walk_of (n := 63) (k := 10) (x := "_law_script") (CX := fun _ => CX0) (sp := fun w => spLaw (K w.params)) hn (by decide) hdf ⟨rfl, by decide, by decide⟩ hY F (fun _ _ a ns hl _ hS => ⟨a, ns, rfl, hS, hl, fun _ => rfl⟩) fun _ _ _ _ _ z => z

end Jug
noncomputable section
namespace Hd
open PySem PySem.W PySem.Calls PyProof.Rows
set_option maxHeartbeats 0
abbrev pg : Program := PySem.Challenge.pw_jughouse_k02_reached
def st (i : Nat) : Stmt := pg.main.body.getD i (.Pass ⟨0, 0, 0, 0⟩)
def me (i j : Nat) : Stmt := L2.inClass (st i) j
def de (P : Params) (k : Str) (t : Nat) (v : Value) : DictEntry := ⟨PyData.keyHash P k, .str k t, v⟩
def fu (s : Stmt) (n q : Str) (g : Addr) (cl : List (Str × Addr)) (a b c d : Value) (an : Option Addr) (e f : Value) (bu : Addr) : FuncData := ⟨n, q, L2.defArgs s, .stmts (L2.defBody s), L2.defScope s, g, cl, a, b, c, d, an, e, f, bu⟩
def o11 (P : Params) : Obj := (.mk (.type "code") none (.fields #[(.str "<module>" 182), (.str "<module>" 183), (.str "/claim/cut.py" 184), (.int 1 0), (.int 0 0), (.int 0 0), (.int 0 0), (.int 0 0), (.ref 11), (.bool false), (.int 181 0), (.ref 12), .none, .none, .none, .none, (.int 185 0), (.int 1 0), (.str "/claim/cut.py" 186)]) #[])
def o12 (P : Params) : Obj := (.mk (.type "frame") none .plain #[(some (.ref 13)), (some (.ref 3)), (some (.ref 3)), none, (some (.str "__main__" 164)), none, (some (.ref 0))])
def o13 (P : Params) : Obj := (.mk (.type "dict") none (.dict #[(de P "__name__" 165 (.str "law_jughouse_k02_reached" 614)), (de P "__doc__" 166 .none), (de P "__package__" 167 .none), (de P "__loader__" 168 (.builtin "__main__.__loader__#opaque")), (de P "__spec__" 169 .none), (de P "__annotations__" 170 (.ref 6)), (de P "__builtins__" 171 (.ref 4)), (de P "__file__" 173 (.str "/claim/cut.py" 172)), (de P "__cached__" 174 .none), (de P "_wall" 193 (.ref 21)), (de P "JugError" 213 (.ref 31)), (de P "BadHouse" 229 (.ref 44)), (de P "BadState" 245 (.ref 56)), (de P "BadMove" 261 (.ref 68)), (de P "MOST_JUGS" 265 (.int 4 264)), (de P "MOST_SIZE" 267 (.int 60 266)), (de P "is_number" 276 (.ref 77)), (de P "is_jug" 283 (.ref 84)), (de P "held_in" 295 (.ref 91)), (de P "ways_from" 313 (.ref 98)), (de P "reached" 321 (.ref 105)), (de P "measured" 332 (.ref 112)), (de P "tied" 343 (.ref 119)), (de P "check_jug" 352 (.ref 126)), (de P "check_house_has" 360 (.ref 133)), (de P "check_house_can_tap" 368 (.ref 140)), (de P "with_amount" 378 (.ref 147)), (de P "Move" 417 (.ref 171)), (de P "Pour" 456 (.ref 199)), (de P "Fill" 490 (.ref 225)), (de P "Empty" 524 (.ref 251)), (de P "MOST_STATES" 528 (.int 2000 527)), (de P "sizes_in" 537 (.ref 260)), (de P "count_states" 546 (.ref 267)), (de P "pours_among" 556 (.ref 274)), (de P "House" 613 (.ref 315)), (de P "_law_cell_at" 623 (.ref 326)), (de P "_law_draw" 633 (.ref 333)), (de P "_law_sizes" 639 (.ref 338)), (de P "_law_state" 650 (.ref 345)), (de P "_law_all_moves" 656 (.ref 350)), (de P "_law_behind" 670 (.ref 357)), (de P "_law_reached" 684 (.ref 364)), (de P "law" 690 (.ref 369))] 44) #[])
def o14 (P : Params) : Obj := (.mk .none none (.fields #[(.int 1 0), (.int 0 0), (.ref 20), (.int 5 0), (.int 0 0), (.ref 27), (.int 7 0), (.int 0 0), (.ref 40), (.int 9 0), (.int 0 0), (.ref 52), (.int 11 0), (.int 0 0), (.ref 64), (.int 16 0), (.int 0 0), (.ref 76), (.int 18 0), (.int 0 0), (.ref 83), (.int 20 0), (.int 0 0), (.ref 90), (.int 32 0), (.int 0 0), (.ref 97), (.int 47 0), (.int 0 0), (.ref 104), (.int 49 0), (.int 0 0), (.ref 111), (.int 55 0), (.int 0 0), (.ref 118), (.int 60 0), (.int 0 0), (.ref 125), (.int 63 0), (.int 0 0), (.ref 132), (.int 66 0), (.int 0 0), (.ref 139), (.int 70 0), (.int 0 0), (.ref 146), (.int 74 0), (.int 0 0), (.ref 153), (.int 82 0), (.int 0 0), (.ref 181), (.int 99 0), (.int 0 0), (.ref 207), (.int 108 0), (.int 0 0), (.ref 233), (.int 119 0), (.int 0 0), (.ref 259), (.int 131 0), (.int 0 0), (.ref 266), (.int 136 0), (.int 0 0), (.ref 273), (.int 143 0), (.int 0 0), (.ref 280), (.int 168 0), (.int 0 0), (.ref 325), (.int 172 0), (.int 0 0), (.ref 332), (.int 175 0), (.int 0 0), (.ref 337), (.int 179 0), (.int 0 0), (.ref 344), (.int 185 0), (.int 0 0), (.ref 349), (.int 193 0), (.int 0 0), (.ref 356), (.int 204 0), (.int 0 0), (.ref 363), (.int 216 0), (.int 0 0), (.ref 368)]) #[])
def o15 (P : Params) : Obj := (.mk (.type "tuple") none (.seq #[(.str "k" 190)] 0) #[])
def o16 (P : Params) : Obj := (.mk .none none (.func (fu (st 0) "_wall" "_wall" 0 [] .none .none .none .none none .none .none 0)) #[])
def o17 (P : Params) : Obj := (.mk (.type "code") none (.fields #[(.str "_wall" 187), (.str "_wall" 188), (.str "/claim/cut.py" 189), (.int 1 0), (.int 1 0), (.int 0 0), (.int 0 0), (.int 3 0), (.ref 15), (.bool true), (.int 181 0), (.ref 16), .none, (.ref 17), (.ref 18), (.ref 19), (.int 191 0), (.int 1 0), (.str "/claim/cut.py" 192)]) #[])
def o18 (P : Params) : Obj := (.mk (.type "function") none (.func (fu (st 0) "_wall" "_wall" 3 [] .none .none .none (.str "__main__" 164) none (.ref 20) .none 0)) #[])
def o19 (P : Params) : Obj := (.mk (.type "tuple") none (.seq #[(.type "ValueError")] 0) #[])
def o20 (P : Params) : Obj := (.mk (.type "builtin_function_or_method") none (.fields #[(.builtin "type.__prepare__"), (.type "type")]) #[])
def o21 (P : Params) : Obj := (.mk (.type "dict") none (.dict #[(de P "__module__" 203 (.str "jughouse.errors" 194)), (de P "__qualname__" 205 (.str "JugError" 204)), (de P "__firstlineno__" 207 (.int 5 206)), (de P "__static_attributes__" 208 (.ref 29))] 4) #[])
def o22 (P : Params) : Obj := (.mk (.type "code") none (.fields #[(.str "JugError" 198), (.str "JugError" 199), (.str "/claim/cut.py" 200), (.int 5 0), (.int 0 0), (.int 0 0), (.int 0 0), (.int 0 0), (.ref 25), (.bool false), (.int 181 0), (.ref 26), .none, .none, .none, .none, (.int 201 0), (.int 5 0), (.str "/claim/cut.py" 202)]) #[])
def o23 (P : Params) : Obj := (.mk (.type "frame") none .plain #[(some (.ref 27)), (some (.ref 3)), (some (.ref 24)), none, (some (.str "jughouse.errors" 194)), none, (some (.ref 0))])
def o24 (P : Params) : Obj := (.mk (.type "dict") none (.dict #[(de P "__module__" 203 (.str "jughouse.errors" 194)), (de P "__firstlineno__" 207 (.int 5 206)), (de P "__static_attributes__" 208 (.ref 29)), (de P "__weakref__" 210 (.ref 32)), (de P "__doc__" 211 .none)] 3) #[])
def o25 (P : Params) : Obj := (.mk (.type "type") none (.cls (.mk "JugError" [(.type "ValueError")] [(.ref 31), (.type "ValueError"), (.type "Exception"), (.type "BaseException"), (.type "object")] 30 "JugError" true [] [(.ref 44), (.ref 56), (.ref 68)] false none false)) #[(some (.ref 22)), none, (some (.str "JugError" 196)), (some (.str "JugError" 204)), (some (.builtin "ValueError.__new__")), (some (.bool true))])
def o26 (P : Params) : Obj := (.mk (.type "getset_descriptor") none (.fields #[(.str "__weakref__" 209), (.ref 31), (.builtin "ExceptionGroup.__weakref__"), .none]) #[])
def o27 (P : Params) : Obj := (.mk (.type "super") none (.fields #[(.ref 31), (.ref 31), (.ref 31)]) #[])
def o28 (P : Params) : Obj := (.mk (.type "builtin_function_or_method") none (.fields #[(.builtin "object.__init_subclass__"), (.ref 31)]) #[])
def o29 (P : Params) : Obj := (.mk (.type "tuple") none (.seq #[(.ref 31)] 0) #[])
def o30 (P : Params) : Obj := (.mk (.type "dict") none (.dict #[(de P "__module__" 221 (.str "jughouse.errors" 194)), (de P "__qualname__" 223 (.str "BadHouse" 222)), (de P "__firstlineno__" 225 (.int 7 224)), (de P "__static_attributes__" 226 (.ref 42))] 4) #[])
def o31 (P : Params) : Obj := (.mk (.type "code") none (.fields #[(.str "BadHouse" 216), (.str "BadHouse" 217), (.str "/claim/cut.py" 218), (.int 7 0), (.int 0 0), (.int 0 0), (.int 0 0), (.int 0 0), (.ref 38), (.bool false), (.int 181 0), (.ref 39), .none, .none, .none, .none, (.int 219 0), (.int 7 0), (.str "/claim/cut.py" 220)]) #[])
def o32 (P : Params) : Obj := (.mk (.type "frame") none .plain #[(some (.ref 40)), (some (.ref 3)), (some (.ref 37)), none, (some (.str "jughouse.errors" 194)), none, (some (.ref 0))])
def o33 (P : Params) : Obj := (.mk (.type "dict") none (.dict #[(de P "__module__" 221 (.str "jughouse.errors" 194)), (de P "__firstlineno__" 225 (.int 7 224)), (de P "__static_attributes__" 226 (.ref 42)), (de P "__doc__" 227 .none)] 2) #[])
def o34 (P : Params) : Obj := (.mk (.type "type") none (.cls (.mk "BadHouse" [(.ref 31)] [(.ref 44), (.ref 31), (.type "ValueError"), (.type "Exception"), (.type "BaseException"), (.type "object")] 43 "BadHouse" true [] [] false none false)) #[(some (.ref 35)), none, (some (.str "BadHouse" 214)), (some (.str "BadHouse" 222)), (some (.builtin "ValueError.__new__")), (some (.bool true))])
def o35 (P : Params) : Obj := (.mk (.type "super") none (.fields #[(.ref 44), (.ref 44), (.ref 44)]) #[])
def o36 (P : Params) : Obj := (.mk (.type "builtin_function_or_method") none (.fields #[(.builtin "object.__init_subclass__"), (.ref 44)]) #[])
def o37 (P : Params) : Obj := (.mk (.type "dict") none (.dict #[(de P "__module__" 237 (.str "jughouse.errors" 194)), (de P "__qualname__" 239 (.str "BadState" 238)), (de P "__firstlineno__" 241 (.int 9 240)), (de P "__static_attributes__" 242 (.ref 54))] 4) #[])
def o38 (P : Params) : Obj := (.mk (.type "code") none (.fields #[(.str "BadState" 232), (.str "BadState" 233), (.str "/claim/cut.py" 234), (.int 9 0), (.int 0 0), (.int 0 0), (.int 0 0), (.int 0 0), (.ref 50), (.bool false), (.int 181 0), (.ref 51), .none, .none, .none, .none, (.int 235 0), (.int 9 0), (.str "/claim/cut.py" 236)]) #[])
def o39 (P : Params) : Obj := (.mk (.type "frame") none .plain #[(some (.ref 52)), (some (.ref 3)), (some (.ref 49)), none, (some (.str "jughouse.errors" 194)), none, (some (.ref 0))])
def o40 (P : Params) : Obj := (.mk (.type "dict") none (.dict #[(de P "__module__" 237 (.str "jughouse.errors" 194)), (de P "__firstlineno__" 241 (.int 9 240)), (de P "__static_attributes__" 242 (.ref 54)), (de P "__doc__" 243 .none)] 2) #[])
def o41 (P : Params) : Obj := (.mk (.type "type") none (.cls (.mk "BadState" [(.ref 31)] [(.ref 56), (.ref 31), (.type "ValueError"), (.type "Exception"), (.type "BaseException"), (.type "object")] 55 "BadState" true [] [] false none false)) #[(some (.ref 47)), none, (some (.str "BadState" 230)), (some (.str "BadState" 238)), (some (.builtin "ValueError.__new__")), (some (.bool true))])
def o42 (P : Params) : Obj := (.mk (.type "super") none (.fields #[(.ref 56), (.ref 56), (.ref 56)]) #[])
def o43 (P : Params) : Obj := (.mk (.type "builtin_function_or_method") none (.fields #[(.builtin "object.__init_subclass__"), (.ref 56)]) #[])
def o44 (P : Params) : Obj := (.mk (.type "dict") none (.dict #[(de P "__module__" 253 (.str "jughouse.errors" 194)), (de P "__qualname__" 255 (.str "BadMove" 254)), (de P "__firstlineno__" 257 (.int 11 256)), (de P "__static_attributes__" 258 (.ref 66))] 4) #[])
def o45 (P : Params) : Obj := (.mk (.type "code") none (.fields #[(.str "BadMove" 248), (.str "BadMove" 249), (.str "/claim/cut.py" 250), (.int 11 0), (.int 0 0), (.int 0 0), (.int 0 0), (.int 0 0), (.ref 62), (.bool false), (.int 181 0), (.ref 63), .none, .none, .none, .none, (.int 251 0), (.int 11 0), (.str "/claim/cut.py" 252)]) #[])
def o46 (P : Params) : Obj := (.mk (.type "frame") none .plain #[(some (.ref 64)), (some (.ref 3)), (some (.ref 61)), none, (some (.str "jughouse.errors" 194)), none, (some (.ref 0))])
def o47 (P : Params) : Obj := (.mk (.type "dict") none (.dict #[(de P "__module__" 253 (.str "jughouse.errors" 194)), (de P "__firstlineno__" 257 (.int 11 256)), (de P "__static_attributes__" 258 (.ref 66)), (de P "__doc__" 259 .none)] 2) #[])
def o48 (P : Params) : Obj := (.mk (.type "type") none (.cls (.mk "BadMove" [(.ref 31)] [(.ref 68), (.ref 31), (.type "ValueError"), (.type "Exception"), (.type "BaseException"), (.type "object")] 67 "BadMove" true [] [] false none false)) #[(some (.ref 59)), none, (some (.str "BadMove" 246)), (some (.str "BadMove" 254)), (some (.builtin "ValueError.__new__")), (some (.bool true))])
def o49 (P : Params) : Obj := (.mk (.type "super") none (.fields #[(.ref 68), (.ref 68), (.ref 68)]) #[])
def o50 (P : Params) : Obj := (.mk (.type "builtin_function_or_method") none (.fields #[(.builtin "object.__init_subclass__"), (.ref 68)]) #[])
def o51 (P : Params) : Obj := (.mk (.type "tuple") none (.seq #[(.str "value" 271), (.str "least" 272), (.str "most" 273)] 0) #[])
def o52 (P : Params) : Obj := (.mk .none none (.func (fu (st 9) "is_number" "is_number" 0 [] .none .none .none .none none .none .none 0)) #[])
def o53 (P : Params) : Obj := (.mk (.type "code") none (.fields #[(.str "is_number" 268), (.str "is_number" 269), (.str "/claim/cut.py" 270), (.int 16 0), (.int 3 0), (.int 0 0), (.int 0 0), (.int 3 0), (.ref 71), (.bool true), (.int 181 0), (.ref 72), .none, (.ref 73), (.ref 74), (.ref 75), (.int 274 0), (.int 16 0), (.str "/claim/cut.py" 275)]) #[])
def o54 (P : Params) : Obj := (.mk (.type "function") none (.func (fu (st 9) "is_number" "is_number" 3 [] .none .none .none (.str "jughouse.checks" 262) none (.ref 76) .none 0)) #[])
def o55 (P : Params) : Obj := (.mk (.type "tuple") none (.seq #[(.str "value" 280)] 0) #[])
def o56 (P : Params) : Obj := (.mk .none none (.func (fu (st 10) "is_jug" "is_jug" 0 [] .none .none .none .none none .none .none 0)) #[])
def o57 (P : Params) : Obj := (.mk (.type "code") none (.fields #[(.str "is_jug" 277), (.str "is_jug" 278), (.str "/claim/cut.py" 279), (.int 18 0), (.int 1 0), (.int 0 0), (.int 0 0), (.int 3 0), (.ref 78), (.bool true), (.int 181 0), (.ref 79), .none, (.ref 80), (.ref 81), (.ref 82), (.int 281 0), (.int 18 0), (.str "/claim/cut.py" 282)]) #[])
def o58 (P : Params) : Obj := (.mk (.type "function") none (.func (fu (st 10) "is_jug" "is_jug" 3 [] .none .none .none (.str "jughouse.checks" 262) none (.ref 83) .none 0)) #[])
def o59 (P : Params) : Obj := (.mk (.type "tuple") none (.seq #[(.str "house" 287), (.str "state" 288), (.str "held" 289), (.str "sizes" 290), (.str "many" 291), (.str "size" 292)] 0) #[])
def o60 (P : Params) : Obj := (.mk .none none (.func (fu (st 11) "held_in" "held_in" 0 [] .none .none .none .none none .none .none 0)) #[])
def o61 (P : Params) : Obj := (.mk (.type "code") none (.fields #[(.str "held_in" 284), (.str "held_in" 285), (.str "/claim/cut.py" 286), (.int 20 0), (.int 2 0), (.int 0 0), (.int 0 0), (.int 3 0), (.ref 85), (.bool true), (.int 181 0), (.ref 86), .none, (.ref 87), (.ref 88), (.ref 89), (.int 293 0), (.int 20 0), (.str "/claim/cut.py" 294)]) #[])
def o62 (P : Params) : Obj := (.mk (.type "function") none (.func (fu (st 11) "held_in" "held_in" 3 [] .none .none .none (.str "jughouse.checks" 262) none (.ref 90) .none 0)) #[])
def o63 (P : Params) : Obj := (.mk (.type "tuple") none (.seq #[(.str "house" 301), (.str "state" 302), (.str "start" 303), (.str "moves" 304), (.str "ways" 305), (.str "row" 306), (.str "place" 307), (.str "here" 308), (.str "move" 309), (.str "behind" 310)] 0) #[])
def o64 (P : Params) : Obj := (.mk .none none (.func (fu (st 13) "ways_from" "ways_from" 0 [] .none .none .none .none none .none .none 0)) #[])
def o65 (P : Params) : Obj := (.mk (.type "code") none (.fields #[(.str "ways_from" 298), (.str "ways_from" 299), (.str "/claim/cut.py" 300), (.int 32 0), (.int 2 0), (.int 0 0), (.int 0 0), (.int 3 0), (.ref 92), (.bool true), (.int 181 0), (.ref 93), .none, (.ref 94), (.ref 95), (.ref 96), (.int 311 0), (.int 32 0), (.str "/claim/cut.py" 312)]) #[])
def o66 (P : Params) : Obj := (.mk (.type "function") none (.func (fu (st 13) "ways_from" "ways_from" 3 [] .none .none .none (.str "jughouse.reach" 296) none (.ref 97) .none 0)) #[])
def o67 (P : Params) : Obj := (.mk (.type "tuple") none (.seq #[(.str "house" 317), (.str "state" 318)] 0) #[])
def o68 (P : Params) : Obj := (.mk .none none (.func (fu (st 14) "reached" "reached" 0 [] .none .none .none .none none .none .none 0)) #[])
def o69 (P : Params) : Obj := (.mk (.type "code") none (.fields #[(.str "reached" 314), (.str "reached" 315), (.str "/claim/cut.py" 316), (.int 47 0), (.int 2 0), (.int 0 0), (.int 0 0), (.int 3 0), (.ref 99), (.bool true), (.int 181 0), (.ref 100), .none, (.ref 101), (.ref 102), (.ref 103), (.int 319 0), (.int 47 0), (.str "/claim/cut.py" 320)]) #[])
def o70 (P : Params) : Obj := (.mk (.type "function") none (.func (fu (st 14) "reached" "reached" 3 [] .none .none .none (.str "jughouse.reach" 296) none (.ref 104) .none 0)) #[])
def o71 (P : Params) : Obj := (.mk (.type "tuple") none (.seq #[(.str "house" 325), (.str "state" 326), (.str "amounts" 327), (.str "held" 328), (.str "many" 329)] 0) #[])
def o72 (P : Params) : Obj := (.mk .none none (.func (fu (st 15) "measured" "measured" 0 [] .none .none .none .none none .none .none 0)) #[])
def o73 (P : Params) : Obj := (.mk (.type "code") none (.fields #[(.str "measured" 322), (.str "measured" 323), (.str "/claim/cut.py" 324), (.int 49 0), (.int 2 0), (.int 0 0), (.int 0 0), (.int 3 0), (.ref 106), (.bool true), (.int 181 0), (.ref 107), .none, (.ref 108), (.ref 109), (.ref 110), (.int 330 0), (.int 49 0), (.str "/claim/cut.py" 331)]) #[])
def o74 (P : Params) : Obj := (.mk (.type "function") none (.func (fu (st 15) "measured" "measured" 3 [] .none .none .none (.str "jughouse.reach" 296) none (.ref 111) .none 0)) #[])
def o75 (P : Params) : Obj := (.mk (.type "tuple") none (.seq #[(.str "house" 336), (.str "one" 337), (.str "other" 338), (.str "ahead" 339), (.str "behind" 340)] 0) #[])
def o76 (P : Params) : Obj := (.mk .none none (.func (fu (st 16) "tied" "tied" 0 [] .none .none .none .none none .none .none 0)) #[])
def o77 (P : Params) : Obj := (.mk (.type "code") none (.fields #[(.str "tied" 333), (.str "tied" 334), (.str "/claim/cut.py" 335), (.int 55 0), (.int 3 0), (.int 0 0), (.int 0 0), (.int 3 0), (.ref 113), (.bool true), (.int 181 0), (.ref 114), .none, (.ref 115), (.ref 116), (.ref 117), (.int 341 0), (.int 55 0), (.str "/claim/cut.py" 342)]) #[])
def o78 (P : Params) : Obj := (.mk (.type "function") none (.func (fu (st 16) "tied" "tied" 3 [] .none .none .none (.str "jughouse.reach" 296) none (.ref 118) .none 0)) #[])
def o79 (P : Params) : Obj := (.mk (.type "tuple") none (.seq #[(.str "jug" 349)] 0) #[])
def o80 (P : Params) : Obj := (.mk .none none (.func (fu (st 18) "check_jug" "check_jug" 0 [] .none .none .none .none none .none .none 0)) #[])
def o81 (P : Params) : Obj := (.mk (.type "code") none (.fields #[(.str "check_jug" 346), (.str "check_jug" 347), (.str "/claim/cut.py" 348), (.int 60 0), (.int 1 0), (.int 0 0), (.int 0 0), (.int 3 0), (.ref 120), (.bool true), (.int 181 0), (.ref 121), .none, (.ref 122), (.ref 123), (.ref 124), (.int 350 0), (.int 60 0), (.str "/claim/cut.py" 351)]) #[])
def o82 (P : Params) : Obj := (.mk (.type "function") none (.func (fu (st 18) "check_jug" "check_jug" 3 [] .none .none .none (.str "jughouse.moves" 344) none (.ref 125) .none 0)) #[])
def o83 (P : Params) : Obj := (.mk (.type "tuple") none (.seq #[(.str "house" 356), (.str "jug" 357)] 0) #[])
def o84 (P : Params) : Obj := (.mk .none none (.func (fu (st 19) "check_house_has" "check_house_has" 0 [] .none .none .none .none none .none .none 0)) #[])
def o85 (P : Params) : Obj := (.mk (.type "code") none (.fields #[(.str "check_house_has" 353), (.str "check_house_has" 354), (.str "/claim/cut.py" 355), (.int 63 0), (.int 2 0), (.int 0 0), (.int 0 0), (.int 3 0), (.ref 127), (.bool true), (.int 181 0), (.ref 128), .none, (.ref 129), (.ref 130), (.ref 131), (.int 358 0), (.int 63 0), (.str "/claim/cut.py" 359)]) #[])
def o86 (P : Params) : Obj := (.mk (.type "function") none (.func (fu (st 19) "check_house_has" "check_house_has" 3 [] .none .none .none (.str "jughouse.moves" 344) none (.ref 132) .none 0)) #[])
def o87 (P : Params) : Obj := (.mk (.type "tuple") none (.seq #[(.str "house" 364), (.str "jug" 365)] 0) #[])
def o88 (P : Params) : Obj := (.mk .none none (.func (fu (st 20) "check_house_can_tap" "check_house_can_tap" 0 [] .none .none .none .none none .none .none 0)) #[])
def o89 (P : Params) : Obj := (.mk (.type "code") none (.fields #[(.str "check_house_can_tap" 361), (.str "check_house_can_tap" 362), (.str "/claim/cut.py" 363), (.int 66 0), (.int 2 0), (.int 0 0), (.int 0 0), (.int 3 0), (.ref 134), (.bool true), (.int 181 0), (.ref 135), .none, (.ref 136), (.ref 137), (.ref 138), (.int 366 0), (.int 66 0), (.str "/claim/cut.py" 367)]) #[])
def o90 (P : Params) : Obj := (.mk (.type "function") none (.func (fu (st 20) "check_house_can_tap" "check_house_can_tap" 3 [] .none .none .none (.str "jughouse.moves" 344) none (.ref 139) .none 0)) #[])
def o91 (P : Params) : Obj := (.mk (.type "tuple") none (.seq #[(.str "held" 372), (.str "jug" 373), (.str "many" 374), (.str "behind" 375)] 0) #[])
def o92 (P : Params) : Obj := (.mk .none none (.func (fu (st 21) "with_amount" "with_amount" 0 [] .none .none .none .none none .none .none 0)) #[])
def o93 (P : Params) : Obj := (.mk (.type "code") none (.fields #[(.str "with_amount" 369), (.str "with_amount" 370), (.str "/claim/cut.py" 371), (.int 70 0), (.int 3 0), (.int 0 0), (.int 0 0), (.int 3 0), (.ref 141), (.bool true), (.int 181 0), (.ref 142), .none, (.ref 143), (.ref 144), (.ref 145), (.int 376 0), (.int 70 0), (.str "/claim/cut.py" 377)]) #[])
def o94 (P : Params) : Obj := (.mk (.type "function") none (.func (fu (st 21) "with_amount" "with_amount" 3 [] .none .none .none (.str "jughouse.moves" 344) none (.ref 146) .none 0)) #[])
def o95 (P : Params) : Obj := (.mk (.type "dict") none (.dict #[(de P "__module__" 386 (.str "jughouse.moves" 344)), (de P "__qualname__" 388 (.str "Move" 387)), (de P "__firstlineno__" 390 (.int 74 389)), (de P "done" 400 (.ref 161)), (de P "held_behind" 409 (.ref 168)), (de P "__static_attributes__" 410 (.ref 169))] 6) #[])
def o96 (P : Params) : Obj := (.mk .none none (.fields #[(.int 76 0), (.int 4 0), (.ref 160), (.int 80 0), (.int 4 0), (.ref 167)]) #[])
def o97 (P : Params) : Obj := (.mk (.type "code") none (.fields #[(.str "Move" 381), (.str "Move" 382), (.str "/claim/cut.py" 383), (.int 74 0), (.int 0 0), (.int 0 0), (.int 0 0), (.int 0 0), (.ref 151), (.bool false), (.int 181 0), (.ref 152), .none, .none, .none, .none, (.int 384 0), (.int 74 0), (.str "/claim/cut.py" 385)]) #[])
def o98 (P : Params) : Obj := (.mk (.type "frame") none .plain #[(some (.ref 153)), (some (.ref 3)), (some (.ref 150)), none, (some (.str "jughouse.moves" 344)), none, (some (.ref 0))])
def o99 (P : Params) : Obj := (.mk (.type "tuple") none (.seq #[(.str "self" 394), (.str "house" 395), (.str "state" 396), (.str "held" 397)] 0) #[])
def o100 (P : Params) : Obj := (.mk .none none (.func (fu (me 22 0) "done" "Move.done" 0 [] .none .none .none .none none .none .none 0)) #[])
def o101 (P : Params) : Obj := (.mk (.type "code") none (.fields #[(.str "done" 391), (.str "Move.done" 392), (.str "/claim/cut.py" 393), (.int 76 0), (.int 3 0), (.int 0 0), (.int 0 0), (.int 3 0), (.ref 155), (.bool true), (.int 181 0), (.ref 156), .none, (.ref 157), (.ref 158), (.ref 159), (.int 398 0), (.int 76 0), (.str "/claim/cut.py" 399)]) #[])
def o102 (P : Params) : Obj := (.mk (.type "function") none (.func (fu (me 22 0) "done" "Move.done" 3 [] .none .none .none (.str "jughouse.moves" 344) none (.ref 160) .none 0)) #[])
def o103 (P : Params) : Obj := (.mk (.type "tuple") none (.seq #[(.str "self" 404), (.str "house" 405), (.str "held" 406)] 0) #[])
def o104 (P : Params) : Obj := (.mk .none none (.func (fu (me 22 1) "held_behind" "Move.held_behind" 0 [] .none .none .none .none none .none .none 0)) #[])
def o105 (P : Params) : Obj := (.mk (.type "code") none (.fields #[(.str "held_behind" 401), (.str "Move.held_behind" 402), (.str "/claim/cut.py" 403), (.int 80 0), (.int 3 0), (.int 0 0), (.int 0 0), (.int 3 0), (.ref 162), (.bool true), (.int 181 0), (.ref 163), .none, (.ref 164), (.ref 165), (.ref 166), (.int 407 0), (.int 80 0), (.str "/claim/cut.py" 408)]) #[])
def o106 (P : Params) : Obj := (.mk (.type "function") none (.func (fu (me 22 1) "held_behind" "Move.held_behind" 3 [] .none .none .none (.str "jughouse.moves" 344) none (.ref 167) .none 0)) #[])
def o107 (P : Params) : Obj := (.mk (.type "dict") none (.dict #[(de P "__module__" 386 (.str "jughouse.moves" 344)), (de P "__firstlineno__" 390 (.int 74 389)), (de P "done" 400 (.ref 161)), (de P "held_behind" 409 (.ref 168)), (de P "__static_attributes__" 410 (.ref 169)), (de P "__dict__" 412 (.ref 172)), (de P "__weakref__" 414 (.ref 173)), (de P "__doc__" 415 .none)] 4) #[])
def o108 (P : Params) : Obj := (.mk (.type "type") none (.cls (.mk "Move" [(.type "object")] [(.ref 171), (.type "object")] 170 "Move" true [] [(.ref 199), (.ref 225), (.ref 251)] false none false)) #[none, none, (some (.str "Move" 379)), (some (.str "Move" 387)), (some (.builtin "object.__new__")), (some (.bool true))])
def o109 (P : Params) : Obj := (.mk (.type "getset_descriptor") none (.fields #[(.str "__dict__" 411), (.ref 171), (.builtin "function.__dict__"), (.builtin "function.__dict__#set")]) #[])
def o110 (P : Params) : Obj := (.mk (.type "getset_descriptor") none (.fields #[(.str "__weakref__" 413), (.ref 171), (.builtin "ExceptionGroup.__weakref__"), .none]) #[])
def o111 (P : Params) : Obj := (.mk (.type "super") none (.fields #[(.ref 171), (.ref 171), (.ref 171)]) #[])
def o112 (P : Params) : Obj := (.mk (.type "builtin_function_or_method") none (.fields #[(.builtin "object.__init_subclass__"), (.ref 171)]) #[])
def o113 (P : Params) : Obj := (.mk (.type "tuple") none (.seq #[(.ref 171)] 0) #[])
def o114 (P : Params) : Obj := (.mk (.type "dict") none (.dict #[(de P "__module__" 425 (.str "jughouse.moves" 344)), (de P "__qualname__" 427 (.str "Pour" 426)), (de P "__firstlineno__" 429 (.int 82 428)), (de P "__init__" 438 (.ref 189)), (de P "held_behind" 450 (.ref 196)), (de P "__static_attributes__" 453 (.ref 197))] 6) #[])
def o115 (P : Params) : Obj := (.mk .none none (.fields #[(.int 84 0), (.int 4 0), (.ref 188), (.int 92 0), (.int 4 0), (.ref 195)]) #[])
def o116 (P : Params) : Obj := (.mk (.type "code") none (.fields #[(.str "Pour" 420), (.str "Pour" 421), (.str "/claim/cut.py" 422), (.int 82 0), (.int 0 0), (.int 0 0), (.int 0 0), (.int 0 0), (.ref 179), (.bool false), (.int 181 0), (.ref 180), .none, .none, .none, .none, (.int 423 0), (.int 82 0), (.str "/claim/cut.py" 424)]) #[])
def o117 (P : Params) : Obj := (.mk (.type "frame") none .plain #[(some (.ref 181)), (some (.ref 3)), (some (.ref 178)), none, (some (.str "jughouse.moves" 344)), none, (some (.ref 0))])
def o118 (P : Params) : Obj := (.mk (.type "tuple") none (.seq #[(.str "self" 433), (.str "one" 434), (.str "other" 435)] 0) #[])
def o119 (P : Params) : Obj := (.mk .none none (.func (fu (me 23 0) "__init__" "Pour.__init__" 0 [] .none .none .none .none none .none .none 0)) #[])
def o120 (P : Params) : Obj := (.mk (.type "code") none (.fields #[(.str "__init__" 430), (.str "Pour.__init__" 431), (.str "/claim/cut.py" 432), (.int 84 0), (.int 3 0), (.int 0 0), (.int 0 0), (.int 3 0), (.ref 183), (.bool true), (.int 181 0), (.ref 184), .none, (.ref 185), (.ref 186), (.ref 187), (.int 436 0), (.int 84 0), (.str "/claim/cut.py" 437)]) #[])
def o121 (P : Params) : Obj := (.mk (.type "function") none (.func (fu (me 23 0) "__init__" "Pour.__init__" 3 [] .none .none .none (.str "jughouse.moves" 344) none (.ref 188) .none 0)) #[])
def o122 (P : Params) : Obj := (.mk (.type "tuple") none (.seq #[(.str "self" 442), (.str "house" 443), (.str "held" 444), (.str "room" 445), (.str "many" 446), (.str "less" 447)] 0) #[])
def o123 (P : Params) : Obj := (.mk .none none (.func (fu (me 23 1) "held_behind" "Pour.held_behind" 0 [] .none .none .none .none none .none .none 0)) #[])
def o124 (P : Params) : Obj := (.mk (.type "code") none (.fields #[(.str "held_behind" 439), (.str "Pour.held_behind" 440), (.str "/claim/cut.py" 441), (.int 92 0), (.int 3 0), (.int 0 0), (.int 0 0), (.int 3 0), (.ref 190), (.bool true), (.int 181 0), (.ref 191), .none, (.ref 192), (.ref 193), (.ref 194), (.int 448 0), (.int 92 0), (.str "/claim/cut.py" 449)]) #[])
def o125 (P : Params) : Obj := (.mk (.type "function") none (.func (fu (me 23 1) "held_behind" "Pour.held_behind" 3 [] .none .none .none (.str "jughouse.moves" 344) none (.ref 195) .none 0)) #[])
def o126 (P : Params) : Obj := (.mk (.type "tuple") none (.seq #[(.str "one" 451), (.str "other" 452)] 0) #[])
def o127 (P : Params) : Obj := (.mk (.type "dict") none (.dict #[(de P "__module__" 425 (.str "jughouse.moves" 344)), (de P "__firstlineno__" 429 (.int 82 428)), (de P "__init__" 438 (.ref 189)), (de P "held_behind" 450 (.ref 196)), (de P "__static_attributes__" 453 (.ref 197)), (de P "__doc__" 454 .none)] 2) #[])
def o128 (P : Params) : Obj := (.mk (.type "type") none (.cls (.mk "Pour" [(.ref 171)] [(.ref 199), (.ref 171), (.type "object")] 198 "Pour" true [] [] false none false)) #[(some (.ref 176)), none, (some (.str "Pour" 418)), (some (.str "Pour" 426)), (some (.builtin "object.__new__")), (some (.bool true))])
def o129 (P : Params) : Obj := (.mk (.type "super") none (.fields #[(.ref 199), (.ref 199), (.ref 199)]) #[])
def o130 (P : Params) : Obj := (.mk (.type "builtin_function_or_method") none (.fields #[(.builtin "object.__init_subclass__"), (.ref 199)]) #[])
def o131 (P : Params) : Obj := (.mk (.type "dict") none (.dict #[(de P "__module__" 464 (.str "jughouse.moves" 344)), (de P "__qualname__" 466 (.str "Fill" 465)), (de P "__firstlineno__" 468 (.int 99 467)), (de P "__init__" 476 (.ref 215)), (de P "held_behind" 485 (.ref 222)), (de P "__static_attributes__" 487 (.ref 223))] 6) #[])
def o132 (P : Params) : Obj := (.mk .none none (.fields #[(.int 101 0), (.int 4 0), (.ref 214), (.int 105 0), (.int 4 0), (.ref 221)]) #[])
def o133 (P : Params) : Obj := (.mk (.type "code") none (.fields #[(.str "Fill" 459), (.str "Fill" 460), (.str "/claim/cut.py" 461), (.int 99 0), (.int 0 0), (.int 0 0), (.int 0 0), (.int 0 0), (.ref 205), (.bool false), (.int 181 0), (.ref 206), .none, .none, .none, .none, (.int 462 0), (.int 99 0), (.str "/claim/cut.py" 463)]) #[])
def o134 (P : Params) : Obj := (.mk (.type "frame") none .plain #[(some (.ref 207)), (some (.ref 3)), (some (.ref 204)), none, (some (.str "jughouse.moves" 344)), none, (some (.ref 0))])
def o135 (P : Params) : Obj := (.mk (.type "tuple") none (.seq #[(.str "self" 472), (.str "jug" 473)] 0) #[])
def o136 (P : Params) : Obj := (.mk .none none (.func (fu (me 24 0) "__init__" "Fill.__init__" 0 [] .none .none .none .none none .none .none 0)) #[])
def o137 (P : Params) : Obj := (.mk (.type "code") none (.fields #[(.str "__init__" 469), (.str "Fill.__init__" 470), (.str "/claim/cut.py" 471), (.int 101 0), (.int 2 0), (.int 0 0), (.int 0 0), (.int 3 0), (.ref 209), (.bool true), (.int 181 0), (.ref 210), .none, (.ref 211), (.ref 212), (.ref 213), (.int 474 0), (.int 101 0), (.str "/claim/cut.py" 475)]) #[])
def o138 (P : Params) : Obj := (.mk (.type "function") none (.func (fu (me 24 0) "__init__" "Fill.__init__" 3 [] .none .none .none (.str "jughouse.moves" 344) none (.ref 214) .none 0)) #[])
def o139 (P : Params) : Obj := (.mk (.type "tuple") none (.seq #[(.str "self" 480), (.str "house" 481), (.str "held" 482)] 0) #[])
def o140 (P : Params) : Obj := (.mk .none none (.func (fu (me 24 1) "held_behind" "Fill.held_behind" 0 [] .none .none .none .none none .none .none 0)) #[])
def o141 (P : Params) : Obj := (.mk (.type "code") none (.fields #[(.str "held_behind" 477), (.str "Fill.held_behind" 478), (.str "/claim/cut.py" 479), (.int 105 0), (.int 3 0), (.int 0 0), (.int 0 0), (.int 3 0), (.ref 216), (.bool true), (.int 181 0), (.ref 217), .none, (.ref 218), (.ref 219), (.ref 220), (.int 483 0), (.int 105 0), (.str "/claim/cut.py" 484)]) #[])
def o142 (P : Params) : Obj := (.mk (.type "function") none (.func (fu (me 24 1) "held_behind" "Fill.held_behind" 3 [] .none .none .none (.str "jughouse.moves" 344) none (.ref 221) .none 0)) #[])
def o143 (P : Params) : Obj := (.mk (.type "tuple") none (.seq #[(.str "jug" 486)] 0) #[])
def o144 (P : Params) : Obj := (.mk (.type "dict") none (.dict #[(de P "__module__" 464 (.str "jughouse.moves" 344)), (de P "__firstlineno__" 468 (.int 99 467)), (de P "__init__" 476 (.ref 215)), (de P "held_behind" 485 (.ref 222)), (de P "__static_attributes__" 487 (.ref 223)), (de P "__doc__" 488 .none)] 2) #[])
def o145 (P : Params) : Obj := (.mk (.type "type") none (.cls (.mk "Fill" [(.ref 171)] [(.ref 225), (.ref 171), (.type "object")] 224 "Fill" true [] [] false none false)) #[(some (.ref 202)), none, (some (.str "Fill" 457)), (some (.str "Fill" 465)), (some (.builtin "object.__new__")), (some (.bool true))])
def o146 (P : Params) : Obj := (.mk (.type "super") none (.fields #[(.ref 225), (.ref 225), (.ref 225)]) #[])
def o147 (P : Params) : Obj := (.mk (.type "builtin_function_or_method") none (.fields #[(.builtin "object.__init_subclass__"), (.ref 225)]) #[])
def o148 (P : Params) : Obj := (.mk (.type "dict") none (.dict #[(de P "__module__" 498 (.str "jughouse.moves" 344)), (de P "__qualname__" 500 (.str "Empty" 499)), (de P "__firstlineno__" 502 (.int 108 501)), (de P "__init__" 510 (.ref 241)), (de P "held_behind" 519 (.ref 248)), (de P "__static_attributes__" 521 (.ref 249))] 6) #[])
def o149 (P : Params) : Obj := (.mk .none none (.fields #[(.int 110 0), (.int 4 0), (.ref 240), (.int 114 0), (.int 4 0), (.ref 247)]) #[])
def o150 (P : Params) : Obj := (.mk (.type "code") none (.fields #[(.str "Empty" 493), (.str "Empty" 494), (.str "/claim/cut.py" 495), (.int 108 0), (.int 0 0), (.int 0 0), (.int 0 0), (.int 0 0), (.ref 231), (.bool false), (.int 181 0), (.ref 232), .none, .none, .none, .none, (.int 496 0), (.int 108 0), (.str "/claim/cut.py" 497)]) #[])
def o151 (P : Params) : Obj := (.mk (.type "frame") none .plain #[(some (.ref 233)), (some (.ref 3)), (some (.ref 230)), none, (some (.str "jughouse.moves" 344)), none, (some (.ref 0))])
def o152 (P : Params) : Obj := (.mk (.type "tuple") none (.seq #[(.str "self" 506), (.str "jug" 507)] 0) #[])
def o153 (P : Params) : Obj := (.mk .none none (.func (fu (me 25 0) "__init__" "Empty.__init__" 0 [] .none .none .none .none none .none .none 0)) #[])
def o154 (P : Params) : Obj := (.mk (.type "code") none (.fields #[(.str "__init__" 503), (.str "Empty.__init__" 504), (.str "/claim/cut.py" 505), (.int 110 0), (.int 2 0), (.int 0 0), (.int 0 0), (.int 3 0), (.ref 235), (.bool true), (.int 181 0), (.ref 236), .none, (.ref 237), (.ref 238), (.ref 239), (.int 508 0), (.int 110 0), (.str "/claim/cut.py" 509)]) #[])
def o155 (P : Params) : Obj := (.mk (.type "function") none (.func (fu (me 25 0) "__init__" "Empty.__init__" 3 [] .none .none .none (.str "jughouse.moves" 344) none (.ref 240) .none 0)) #[])
def o156 (P : Params) : Obj := (.mk (.type "tuple") none (.seq #[(.str "self" 514), (.str "house" 515), (.str "held" 516)] 0) #[])
def o157 (P : Params) : Obj := (.mk .none none (.func (fu (me 25 1) "held_behind" "Empty.held_behind" 0 [] .none .none .none .none none .none .none 0)) #[])
def o158 (P : Params) : Obj := (.mk (.type "code") none (.fields #[(.str "held_behind" 511), (.str "Empty.held_behind" 512), (.str "/claim/cut.py" 513), (.int 114 0), (.int 3 0), (.int 0 0), (.int 0 0), (.int 3 0), (.ref 242), (.bool true), (.int 181 0), (.ref 243), .none, (.ref 244), (.ref 245), (.ref 246), (.int 517 0), (.int 114 0), (.str "/claim/cut.py" 518)]) #[])
def o159 (P : Params) : Obj := (.mk (.type "function") none (.func (fu (me 25 1) "held_behind" "Empty.held_behind" 3 [] .none .none .none (.str "jughouse.moves" 344) none (.ref 247) .none 0)) #[])
def o160 (P : Params) : Obj := (.mk (.type "tuple") none (.seq #[(.str "jug" 520)] 0) #[])
def o161 (P : Params) : Obj := (.mk (.type "dict") none (.dict #[(de P "__module__" 498 (.str "jughouse.moves" 344)), (de P "__firstlineno__" 502 (.int 108 501)), (de P "__init__" 510 (.ref 241)), (de P "held_behind" 519 (.ref 248)), (de P "__static_attributes__" 521 (.ref 249)), (de P "__doc__" 522 .none)] 2) #[])
def o162 (P : Params) : Obj := (.mk (.type "type") none (.cls (.mk "Empty" [(.ref 171)] [(.ref 251), (.ref 171), (.type "object")] 250 "Empty" true [] [] false none false)) #[(some (.ref 228)), none, (some (.str "Empty" 491)), (some (.str "Empty" 499)), (some (.builtin "object.__new__")), (some (.bool true))])
def o163 (P : Params) : Obj := (.mk (.type "super") none (.fields #[(.ref 251), (.ref 251), (.ref 251)]) #[])
def o164 (P : Params) : Obj := (.mk (.type "builtin_function_or_method") none (.fields #[(.builtin "object.__init_subclass__"), (.ref 251)]) #[])
def o165 (P : Params) : Obj := (.mk (.type "tuple") none (.seq #[(.str "sizes" 532), (.str "told" 533), (.str "size" 534)] 0) #[])
def o166 (P : Params) : Obj := (.mk .none none (.func (fu (st 28) "sizes_in" "sizes_in" 0 [] .none .none .none .none none .none .none 0)) #[])
def o167 (P : Params) : Obj := (.mk (.type "code") none (.fields #[(.str "sizes_in" 529), (.str "sizes_in" 530), (.str "/claim/cut.py" 531), (.int 119 0), (.int 1 0), (.int 0 0), (.int 0 0), (.int 3 0), (.ref 254), (.bool true), (.int 181 0), (.ref 255), .none, (.ref 256), (.ref 257), (.ref 258), (.int 535 0), (.int 119 0), (.str "/claim/cut.py" 536)]) #[])
def o168 (P : Params) : Obj := (.mk (.type "function") none (.func (fu (st 28) "sizes_in" "sizes_in" 3 [] .none .none .none (.str "jughouse.houses" 525) none (.ref 259) .none 0)) #[])
def o169 (P : Params) : Obj := (.mk (.type "tuple") none (.seq #[(.str "sizes" 541), (.str "many" 542), (.str "size" 543)] 0) #[])
def o170 (P : Params) : Obj := (.mk .none none (.func (fu (st 29) "count_states" "count_states" 0 [] .none .none .none .none none .none .none 0)) #[])
def o171 (P : Params) : Obj := (.mk (.type "code") none (.fields #[(.str "count_states" 538), (.str "count_states" 539), (.str "/claim/cut.py" 540), (.int 131 0), (.int 1 0), (.int 0 0), (.int 0 0), (.int 3 0), (.ref 261), (.bool true), (.int 181 0), (.ref 262), .none, (.ref 263), (.ref 264), (.ref 265), (.int 544 0), (.int 131 0), (.str "/claim/cut.py" 545)]) #[])
def o172 (P : Params) : Obj := (.mk (.type "function") none (.func (fu (st 29) "count_states" "count_states" 3 [] .none .none .none (.str "jughouse.houses" 525) none (.ref 266) .none 0)) #[])
def o173 (P : Params) : Obj := (.mk (.type "tuple") none (.seq #[(.str "many" 550), (.str "pours" 551), (.str "one" 552), (.str "other" 553)] 0) #[])
def o174 (P : Params) : Obj := (.mk .none none (.func (fu (st 30) "pours_among" "pours_among" 0 [] .none .none .none .none none .none .none 0)) #[])
def o175 (P : Params) : Obj := (.mk (.type "code") none (.fields #[(.str "pours_among" 547), (.str "pours_among" 548), (.str "/claim/cut.py" 549), (.int 136 0), (.int 1 0), (.int 0 0), (.int 0 0), (.int 3 0), (.ref 268), (.bool true), (.int 181 0), (.ref 269), .none, (.ref 270), (.ref 271), (.ref 272), (.int 554 0), (.int 136 0), (.str "/claim/cut.py" 555)]) #[])
def o176 (P : Params) : Obj := (.mk (.type "function") none (.func (fu (st 30) "pours_among" "pours_among" 3 [] .none .none .none (.str "jughouse.houses" 525) none (.ref 273) .none 0)) #[])
def o177 (P : Params) : Obj := (.mk (.type "dict") none (.dict #[(de P "__module__" 564 (.str "jughouse.houses" 525)), (de P "__qualname__" 566 (.str "House" 565)), (de P "__firstlineno__" 568 (.int 143 567)), (de P "__init__" 577 (.ref 288)), (de P "sizes" 584 (.ref 295)), (de P "moves" 590 (.ref 300)), (de P "states" 597 (.ref 307)), (de P "empty" 603 (.ref 312)), (de P "__static_attributes__" 606 (.ref 313))] 9) #[])
def o178 (P : Params) : Obj := (.mk .none none (.fields #[(.int 145 0), (.int 4 0), (.ref 287), (.int 151 0), (.int 4 0), (.ref 294), (.int 154 0), (.int 4 0), (.ref 299), (.int 162 0), (.int 4 0), (.ref 306), (.int 165 0), (.int 4 0), (.ref 311)]) #[])
def o179 (P : Params) : Obj := (.mk (.type "code") none (.fields #[(.str "House" 559), (.str "House" 560), (.str "/claim/cut.py" 561), (.int 143 0), (.int 0 0), (.int 0 0), (.int 0 0), (.int 0 0), (.ref 278), (.bool false), (.int 181 0), (.ref 279), .none, .none, .none, .none, (.int 562 0), (.int 143 0), (.str "/claim/cut.py" 563)]) #[])
def o180 (P : Params) : Obj := (.mk (.type "frame") none .plain #[(some (.ref 280)), (some (.ref 3)), (some (.ref 277)), none, (some (.str "jughouse.houses" 525)), none, (some (.ref 0))])
def o181 (P : Params) : Obj := (.mk (.type "tuple") none (.seq #[(.str "self" 572), (.str "sizes" 573), (.str "tap" 574)] 0) #[])
def o182 (P : Params) : Obj := (.mk .none none (.func (fu (me 31 0) "__init__" "House.__init__" 0 [] .none .none .none .none none .none .none 0)) #[])
def o183 (P : Params) : Obj := (.mk (.type "code") none (.fields #[(.str "__init__" 569), (.str "House.__init__" 570), (.str "/claim/cut.py" 571), (.int 145 0), (.int 3 0), (.int 0 0), (.int 0 0), (.int 3 0), (.ref 282), (.bool true), (.int 181 0), (.ref 283), .none, (.ref 284), (.ref 285), (.ref 286), (.int 575 0), (.int 145 0), (.str "/claim/cut.py" 576)]) #[])
def o184 (P : Params) : Obj := (.mk (.type "function") none (.func (fu (me 31 0) "__init__" "House.__init__" 3 [] .none .none .none (.str "jughouse.houses" 525) none (.ref 287) .none 0)) #[])
def o185 (P : Params) : Obj := (.mk (.type "tuple") none (.seq #[(.str "self" 581)] 0) #[])
def o186 (P : Params) : Obj := (.mk .none none (.func (fu (me 31 1) "sizes" "House.sizes" 0 [] .none .none .none .none none .none .none 0)) #[])
def o187 (P : Params) : Obj := (.mk (.type "code") none (.fields #[(.str "sizes" 578), (.str "House.sizes" 579), (.str "/claim/cut.py" 580), (.int 151 0), (.int 1 0), (.int 0 0), (.int 0 0), (.int 3 0), (.ref 289), (.bool true), (.int 181 0), (.ref 290), .none, (.ref 291), (.ref 292), (.ref 293), (.int 582 0), (.int 151 0), (.str "/claim/cut.py" 583)]) #[])
def o188 (P : Params) : Obj := (.mk (.type "function") none (.func (fu (me 31 1) "sizes" "House.sizes" 3 [] .none .none .none (.str "jughouse.houses" 525) none (.ref 294) .none 0)) #[])
def o189 (P : Params) : Obj := (.mk .none none (.func (fu (me 31 2) "moves" "House.moves" 0 [] .none .none .none .none none .none .none 0)) #[])
def o190 (P : Params) : Obj := (.mk (.type "code") none (.fields #[(.str "moves" 585), (.str "House.moves" 586), (.str "/claim/cut.py" 587), (.int 154 0), (.int 1 0), (.int 0 0), (.int 0 0), (.int 3 0), (.ref 296), (.bool true), (.int 181 0), (.ref 297), .none, .none, .none, (.ref 298), (.int 588 0), (.int 154 0), (.str "/claim/cut.py" 589)]) #[])
def o191 (P : Params) : Obj := (.mk (.type "function") none (.func (fu (me 31 2) "moves" "House.moves" 3 [] .none .none .none (.str "jughouse.houses" 525) none (.ref 299) .none 0)) #[])
def o192 (P : Params) : Obj := (.mk (.type "tuple") none (.seq #[(.str "self" 594)] 0) #[])
def o193 (P : Params) : Obj := (.mk .none none (.func (fu (me 31 3) "states" "House.states" 0 [] .none .none .none .none none .none .none 0)) #[])
def o194 (P : Params) : Obj := (.mk (.type "code") none (.fields #[(.str "states" 591), (.str "House.states" 592), (.str "/claim/cut.py" 593), (.int 162 0), (.int 1 0), (.int 0 0), (.int 0 0), (.int 3 0), (.ref 301), (.bool true), (.int 181 0), (.ref 302), .none, (.ref 303), (.ref 304), (.ref 305), (.int 595 0), (.int 162 0), (.str "/claim/cut.py" 596)]) #[])
def o195 (P : Params) : Obj := (.mk (.type "function") none (.func (fu (me 31 3) "states" "House.states" 3 [] .none .none .none (.str "jughouse.houses" 525) none (.ref 306) .none 0)) #[])
def o196 (P : Params) : Obj := (.mk .none none (.func (fu (me 31 4) "empty" "House.empty" 0 [] .none .none .none .none none .none .none 0)) #[])
def o197 (P : Params) : Obj := (.mk (.type "code") none (.fields #[(.str "empty" 598), (.str "House.empty" 599), (.str "/claim/cut.py" 600), (.int 165 0), (.int 1 0), (.int 0 0), (.int 0 0), (.int 3 0), (.ref 308), (.bool true), (.int 181 0), (.ref 309), .none, .none, .none, (.ref 310), (.int 601 0), (.int 165 0), (.str "/claim/cut.py" 602)]) #[])
def o198 (P : Params) : Obj := (.mk (.type "function") none (.func (fu (me 31 4) "empty" "House.empty" 3 [] .none .none .none (.str "jughouse.houses" 525) none (.ref 311) .none 0)) #[])
def o199 (P : Params) : Obj := (.mk (.type "tuple") none (.seq #[(.str "jug_sizes" 604), (.str "tap" 605)] 0) #[])
def o200 (P : Params) : Obj := (.mk (.type "dict") none (.dict #[(de P "__module__" 564 (.str "jughouse.houses" 525)), (de P "__firstlineno__" 568 (.int 143 567)), (de P "__init__" 577 (.ref 288)), (de P "sizes" 584 (.ref 295)), (de P "moves" 590 (.ref 300)), (de P "states" 597 (.ref 307)), (de P "empty" 603 (.ref 312)), (de P "__static_attributes__" 606 (.ref 313)), (de P "__dict__" 608 (.ref 316)), (de P "__weakref__" 610 (.ref 317)), (de P "__doc__" 611 .none)] 4) #[])
def o201 (P : Params) : Obj := (.mk (.type "type") none (.cls (.mk "House" [(.type "object")] [(.ref 315), (.type "object")] 314 "House" true [] [] false none false)) #[none, none, (some (.str "House" 557)), (some (.str "House" 565)), (some (.builtin "object.__new__")), (some (.bool true))])
def o202 (P : Params) : Obj := (.mk (.type "getset_descriptor") none (.fields #[(.str "__dict__" 607), (.ref 315), (.builtin "function.__dict__"), (.builtin "function.__dict__#set")]) #[])
def o203 (P : Params) : Obj := (.mk (.type "getset_descriptor") none (.fields #[(.str "__weakref__" 609), (.ref 315), (.builtin "ExceptionGroup.__weakref__"), .none]) #[])
def o204 (P : Params) : Obj := (.mk (.type "super") none (.fields #[(.ref 315), (.ref 315), (.ref 315)]) #[])
def o205 (P : Params) : Obj := (.mk (.type "builtin_function_or_method") none (.fields #[(.builtin "object.__init_subclass__"), (.ref 315)]) #[])
def o206 (P : Params) : Obj := (.mk (.type "tuple") none (.seq #[(.str "_law_script" 619), (.str "_law_k" 620)] 0) #[])
def o207 (P : Params) : Obj := (.mk .none none (.func (fu (st 33) "_law_cell_at" "_law_cell_at" 0 [] .none .none .none .none none .none .none 0)) #[])
def o208 (P : Params) : Obj := (.mk (.type "code") none (.fields #[(.str "_law_cell_at" 616), (.str "_law_cell_at" 617), (.str "/claim/cut.py" 618), (.int 168 0), (.int 2 0), (.int 0 0), (.int 0 0), (.int 3 0), (.ref 320), (.bool true), (.int 181 0), (.ref 321), .none, (.ref 322), (.ref 323), (.ref 324), (.int 621 0), (.int 168 0), (.str "/claim/cut.py" 622)]) #[])
def o209 (P : Params) : Obj := (.mk (.type "function") none (.func (fu (st 33) "_law_cell_at" "_law_cell_at" 3 [] .none .none .none (.str "law_jughouse_k02_reached" 614) none (.ref 325) .none 0)) #[])
def o210 (P : Params) : Obj := (.mk (.type "tuple") none (.seq #[(.str "_law_cell" 627), (.str "_law_k" 628), (.str "_law_many" 629), (.str "_law_primes" 630)] 0) #[])
def o211 (P : Params) : Obj := (.mk .none none (.func (fu (st 34) "_law_draw" "_law_draw" 0 [] .none .none .none .none none .none .none 0)) #[])
def o212 (P : Params) : Obj := (.mk (.type "code") none (.fields #[(.str "_law_draw" 624), (.str "_law_draw" 625), (.str "/claim/cut.py" 626), (.int 172 0), (.int 3 0), (.int 0 0), (.int 0 0), (.int 3 0), (.ref 327), (.bool true), (.int 181 0), (.ref 328), .none, (.ref 329), (.ref 330), (.ref 331), (.int 631 0), (.int 172 0), (.str "/claim/cut.py" 632)]) #[])
def o213 (P : Params) : Obj := (.mk (.type "function") none (.func (fu (st 34) "_law_draw" "_law_draw" 3 [] .none .none .none (.str "law_jughouse_k02_reached" 614) none (.ref 332) .none 0)) #[])
def o214 (P : Params) : Obj := (.mk .none none (.func (fu (st 35) "_law_sizes" "_law_sizes" 0 [] .none .none .none .none none .none .none 0)) #[])
def o215 (P : Params) : Obj := (.mk (.type "code") none (.fields #[(.str "_law_sizes" 634), (.str "_law_sizes" 635), (.str "/claim/cut.py" 636), (.int 175 0), (.int 1 0), (.int 0 0), (.int 0 0), (.int 3 0), (.ref 334), (.bool true), (.int 181 0), (.ref 335), .none, .none, .none, (.ref 336), (.int 637 0), (.int 175 0), (.str "/claim/cut.py" 638)]) #[])
def o216 (P : Params) : Obj := (.mk (.type "function") none (.func (fu (st 35) "_law_sizes" "_law_sizes" 3 [] .none .none .none (.str "law_jughouse_k02_reached" 614) none (.ref 337) .none 0)) #[])
def o217 (P : Params) : Obj := (.mk (.type "tuple") none (.seq #[(.str "_law_cell" 643), (.str "_law_sizes_here" 644), (.str "_law_state_here" 645), (.str "_law_k" 646), (.str "_law_kind" 647)] 0) #[])
def o218 (P : Params) : Obj := (.mk .none none (.func (fu (st 36) "_law_state" "_law_state" 0 [] .none .none .none .none none .none .none 0)) #[])
def o219 (P : Params) : Obj := (.mk (.type "code") none (.fields #[(.str "_law_state" 640), (.str "_law_state" 641), (.str "/claim/cut.py" 642), (.int 179 0), (.int 2 0), (.int 0 0), (.int 0 0), (.int 3 0), (.ref 339), (.bool true), (.int 181 0), (.ref 340), .none, (.ref 341), (.ref 342), (.ref 343), (.int 648 0), (.int 179 0), (.str "/claim/cut.py" 649)]) #[])
def o220 (P : Params) : Obj := (.mk (.type "function") none (.func (fu (st 36) "_law_state" "_law_state" 3 [] .none .none .none (.str "law_jughouse_k02_reached" 614) none (.ref 344) .none 0)) #[])
def o221 (P : Params) : Obj := (.mk .none none (.func (fu (st 37) "_law_all_moves" "_law_all_moves" 0 [] .none .none .none .none none .none .none 0)) #[])
def o222 (P : Params) : Obj := (.mk (.type "code") none (.fields #[(.str "_law_all_moves" 651), (.str "_law_all_moves" 652), (.str "/claim/cut.py" 653), (.int 185 0), (.int 2 0), (.int 0 0), (.int 0 0), (.int 3 0), (.ref 346), (.bool true), (.int 181 0), (.ref 347), .none, .none, .none, (.ref 348), (.int 654 0), (.int 185 0), (.str "/claim/cut.py" 655)]) #[])
def o223 (P : Params) : Obj := (.mk (.type "function") none (.func (fu (st 37) "_law_all_moves" "_law_all_moves" 3 [] .none .none .none (.str "law_jughouse_k02_reached" 614) none (.ref 349) .none 0)) #[])
def o224 (P : Params) : Obj := (.mk (.type "tuple") none (.seq #[(.str "_law_sizes_here" 660), (.str "_law_state_here" 661), (.str "_law_told" 662), (.str "_law_sort" 663), (.str "_law_one" 664), (.str "_law_other" 665), (.str "_law_made" 666), (.str "_law_much" 667)] 0) #[])
def o225 (P : Params) : Obj := (.mk .none none (.func (fu (st 38) "_law_behind" "_law_behind" 0 [] .none .none .none .none none .none .none 0)) #[])
def o226 (P : Params) : Obj := (.mk (.type "code") none (.fields #[(.str "_law_behind" 657), (.str "_law_behind" 658), (.str "/claim/cut.py" 659), (.int 193 0), (.int 3 0), (.int 0 0), (.int 0 0), (.int 3 0), (.ref 351), (.bool true), (.int 181 0), (.ref 352), .none, (.ref 353), (.ref 354), (.ref 355), (.int 668 0), (.int 193 0), (.str "/claim/cut.py" 669)]) #[])
def o227 (P : Params) : Obj := (.mk (.type "function") none (.func (fu (st 38) "_law_behind" "_law_behind" 3 [] .none .none .none (.str "law_jughouse_k02_reached" 614) none (.ref 356) .none 0)) #[])
def o228 (P : Params) : Obj := (.mk (.type "tuple") none (.seq #[(.str "_law_sizes_here" 674), (.str "_law_tap" 675), (.str "_law_state_here" 676), (.str "_law_found" 677), (.str "_law_met" 678), (.str "_law_at" 679), (.str "_law_told" 680), (.str "_law_there" 681)] 0) #[])
def o229 (P : Params) : Obj := (.mk .none none (.func (fu (st 39) "_law_reached" "_law_reached" 0 [] .none .none .none .none none .none .none 0)) #[])
def o230 (P : Params) : Obj := (.mk (.type "code") none (.fields #[(.str "_law_reached" 671), (.str "_law_reached" 672), (.str "/claim/cut.py" 673), (.int 204 0), (.int 3 0), (.int 0 0), (.int 0 0), (.int 3 0), (.ref 358), (.bool true), (.int 181 0), (.ref 359), .none, (.ref 360), (.ref 361), (.ref 362), (.int 682 0), (.int 204 0), (.str "/claim/cut.py" 683)]) #[])
def o231 (P : Params) : Obj := (.mk (.type "function") none (.func (fu (st 39) "_law_reached" "_law_reached" 3 [] .none .none .none (.str "law_jughouse_k02_reached" 614) none (.ref 363) .none 0)) #[])
def o232 (P : Params) : Obj := (.mk .none none (.func (fu (st 40) "law" "law" 0 [] .none .none .none .none none .none .none 0)) #[])
def o233 (P : Params) : Obj := (.mk (.type "code") none (.fields #[(.str "law" 685), (.str "law" 686), (.str "/claim/cut.py" 687), (.int 216 0), (.int 1 0), (.int 0 0), (.int 0 0), (.int 3 0), (.ref 365), (.bool true), (.int 181 0), (.ref 366), .none, .none, .none, (.ref 367), (.int 688 0), (.int 216 0), (.str "/claim/cut.py" 689)]) #[])
def o234 (P : Params) : Obj := (.mk (.type "function") none (.func (fu (st 40) "law" "law" 3 [] .none .none .none (.str "law_jughouse_k02_reached" 614) none (.ref 368) .none 0)) #[])
abbrev N := BT.node
abbrev L := BT.nil
def lifeF : Life := (.mk [] [] [] 0 [] [] false #[] [] 0 false false false 0 [2000, 10, 10] false 0 true [] [] 0 false)
def drawnF : Drawn := (.mk 0 0 0 0)
def hA (P : Params) : Heap := ⟨Array.mk (boot_o_0 P :: boot_o_1 P :: boot_o_2 P :: boot_o_3 P :: boot_o_4 P :: boot_o_5 P :: boot_o_6 P :: boot_o_7 P :: boot_o_8 P :: boot_o_9 P :: boot_o_10 P :: boot_o_7 P :: 
  boot_o_8 P :: o11 P :: o12 P :: []), lifeF⟩
def sA (w : World) (os : OsState) : Shared := ⟨hA w.params, Array.mk [], drawnF, 187, os⟩
def tB (P : Params) : BT := (N (boot_o_0 P) (N (boot_o_1 P) (N (boot_o_3 P) (N (boot_o_7 P) L L) (N (boot_o_7 P) L L)) (N (boot_o_5 P) (N (boot_o_9 P) L L) (N (o11 P) L L))) (N (boot_o_2 P) (N (boot_o_4 P) (N (boot_o_8 P) L L) (N (boot_o_8 P) L L)) (N (boot_o_6 P) (N (boot_o_10 P) L L) (N (o12 P) L L))))
def sB (w : World) (os : OsState) : SharedT := ⟨tB w.params, 15, lifeF, Array.mk [], drawnF, 187, os⟩
def tC0 (P : Params) : BT := (N (boot_o_0 P) (N (boot_o_1 P) (N (o13 P) (N (boot_o_7 P) (N (boot_o_7 P) (N (o25 P) (N (boot_o_8 P) (N (boot_o_7 P) (N (boot_o_8 P) L L) L) (N (boot_o_8 P) (N (o205 P) L L) L)) (N (boot_o_7 P) (N (o100 P) (N (o183 P) L L) L) (N (o143 P) (N (boot_o_7 P) L L) L))) (N (o29 P) (N (boot_o_8 P) (N (o91 P) (N (boot_o_7 P) L L) L) (N (o133 P) (N (boot_o_8 P) L L) L)) (N (o73 P) (N (o112 P) (N (o192 P) L L) L) (N (o153 P) (N (o232 P) L L) L)))) (N (o20 P) (N (boot_o_8 P) (N (boot_o_7 P) (N (boot_o_8 P) (N (o169 P) L L) L) (N (o128 P) (N (boot_o_7 P) L L) L)) (N (o68 P) (N (o105 P) (N (o188 P) L L) L) (N (boot_o_7 P) (N (boot_o_8 P) L L) L))) (N (o40 P) (N (o59 P) (N (boot_o_7 P) (N (o178 P) L L) L) (N (o138 P) (N (o218 P) L L) L)) (N (o78 P) (N (boot_o_7 P) (N (o197 P) L L) L) (N (o158 P) L L))))) (N (boot_o_7 P) (N (o16 P) (N (o29 P) (N (o47 P) (N (o84 P) (N (o167 P) L L) L) (N (o124 P) (N (boot_o_7 P) L L) L)) (N (boot_o_7 P) (N (boot_o_8 P) (N (o185 P) L L) L) (N (o147 P) (N (o225 P) L L) L))) (N (boot_o_8 P) (N (o57 P) (N (o94 P) (N (boot_o_7 P) L L) L) (N (o135 P) (N (boot_o_7 P) L L) L)) (N (o75 P) (N (boot_o_7 P) (N (o195 P) L L) L) (N (boot_o_8 P) L L)))) (N (o22 P) (N (o33 P) (N (o52 P) (N (o89 P) (N (o172 P) L L) L) (N (o20 P) (N (o211 P) L L) L)) (N (boot_o_8 P) (N (o108 P) (N (o190 P) L L) L) (N (boot_o_7 P) (N (o230 P) L L) L))) (N (o29 P) (N (o62 P) (N (boot_o_7 P) (N (boot_o_8 P) L L) L) (N (boot_o_7 P) (N (boot_o_8 P) L L) L)) (N (boot_o_7 P) (N (o119 P) (N (o201 P) L L) L) (N (o162 P) L L)))))) (N (boot_o_5 P) (N (boot_o_9 P) (N (o15 P) (N (o27 P) (N (o46 P) (N (o83 P) (N (boot_o_7 P) L L) L) (N (boot_o_7 P) (N (boot_o_8 P) L L) L)) (N (o65 P) (N (o102 P) (N (boot_o_7 P) L L) L) (N (o145 P) (N (o224 P) L L) L))) (N (o37 P) (N (boot_o_7 P) (N (o92 P) (N (o175 P) L L) L) (N (boot_o_7 P) (N (o215 P) L L) L)) (N (boot_o_7 P) (N (o20 P) (N (o193 P) L L) L) (N (o155 P) (N (o234 P) L L) L)))) (N (boot_o_7 P) (N (o32 P) (N (o51 P) (N (boot_o_7 P) (N (o170 P) L L) L) (N (o130 P) (N (o210 P) L L) L)) (N (o70 P) (N (boot_o_7 P) (N (boot_o_8 P) L L) L) (N (o150 P) (N (boot_o_7 P) L L) L))) (N (o42 P) (N (o60 P) (N (o97 P) (N (o180 P) L L) L) (N (boot_o_8 P) (N (o220 P) L L) L)) (N (boot_o_8 P) (N (o118 P) (N (o199 P) L L) L) (N (o160 P) L L))))) (N (o11 P) (N (o18 P) (N (o30 P) (N (o49 P) (N (o86 P) (N (boot_o_7 P) L L) L) (N (o126 P) (N (o208 P) L L) L)) (N (o67 P) (N (boot_o_7 P) (N (o186 P) L L) L) (N (o20 P) (N (o227 P) L L) L))) (N (o39 P) (N (boot_o_7 P) (N (o20 P) (N (o177 P) L L) L) (N (o136 P) (N (o217 P) L L) L)) (N (o76 P) (N (o116 P) (N (boot_o_8 P) L L) L) (N (boot_o_7 P) L L)))) (N (boot_o_7 P) (N (o35 P) (N (o54 P) (N (boot_o_7 P) (N (boot_o_8 P) L L) L) (N (boot_o_7 P) (N (o213 P) L L) L)) (N (boot_o_7 P) (N (o110 P) (N (boot_o_7 P) L L) L) (N (o152 P) (N (boot_o_7 P) L L) L))) (N (o44 P) (N (boot_o_8 P) (N (o99 P) (N (boot_o_7 P) L L) L) (N (o141 P) (N (o222 P) L L) L)) (N (o81 P) (N (o121 P) (N (o203 P) L L) L) (N (o164 P) L L))))))) (N (boot_o_2 P) (N (boot_o_4 P) (N (boot_o_8 P) (N (boot_o_8 P) (N (o26 P) (N (o45 P) (N (boot_o_8 P) (N (o165 P) L L) L) (N (o122 P) (N (boot_o_7 P) L L) L)) (N (o64 P) (N (o101 P) (N (o184 P) L L) L) (N (o144 P) (N (boot_o_8 P) L L) L))) (N (o20 P) (N (o55 P) (N (boot_o_7 P) (N (o174 P) L L) L) (N (o134 P) (N (o214 P) L L) L)) (N (o74 P) (N (o113 P) (N (boot_o_7 P) L L) L) (N (o154 P) (N (o233 P) L L) L)))) (N (o21 P) (N (o31 P) (N (boot_o_8 P) (N (o87 P) (N (boot_o_7 P) L L) L) (N (o129 P) (N (boot_o_8 P) L L) L)) (N (o69 P) (N (o106 P) (N (boot_o_7 P) L L) L) (N (o149 P) (N (o228 P) L L) L))) (N (o41 P) (N (boot_o_7 P) (N (o96 P) (N (o179 P) L L) L) (N (boot_o_7 P) (N (o219 P) L L) L)) (N (boot_o_7 P) (N (boot_o_8 P) (N (o198 P) L L) L) (N (o159 P) L L))))) (N (o14 P) (N (o17 P) (N (o20 P) (N (o48 P) (N (o85 P) (N (o168 P) L L) L) (N (o125 P) (N (o207 P) L L) L)) (N (boot_o_8 P) (N (o103 P) (N (boot_o_7 P) L L) L) (N (o113 P) (N (o226 P) L L) L))) (N (o38 P) (N (o58 P) (N (boot_o_7 P) (N (o20 P) L L) L) (N (boot_o_7 P) (N (boot_o_8 P) L L) L)) (N (boot_o_7 P) (N (o115 P) (N (boot_o_7 P) L L) L) (N (o156 P) L L)))) (N (o23 P) (N (o34 P) (N (o53 P) (N (o90 P) (N (boot_o_7 P) L L) L) (N (o131 P) (N (o212 P) L L) L)) (N (o71 P) (N (o109 P) (N (o191 P) L L) L) (N (boot_o_8 P) (N (o231 P) L L) L))) (N (o20 P) (N (boot_o_7 P) (N (boot_o_8 P) (N (o181 P) L L) L) (N (o140 P) (N (o221 P) L L) L)) (N (o80 P) (N (o120 P) (N (o202 P) L L) L) (N (o163 P) L L)))))) (N (boot_o_6 P) (N (boot_o_10 P) (N (boot_o_7 P) (N (o28 P) (N (boot_o_7 P) (N (boot_o_7 P) (N (o166 P) L L) L) (N (o123 P) (N (o206 P) L L) L)) (N (o66 P) (N (boot_o_7 P) (N (boot_o_8 P) L L) L) (N (o146 P) (N (boot_o_7 P) L L) L))) (N (boot_o_7 P) (N (o56 P) (N (o93 P) (N (o176 P) L L) L) (N (boot_o_8 P) (N (o216 P) L L) L)) (N (boot_o_8 P) (N (o114 P) (N (o194 P) L L) L) (N (boot_o_7 P) L L)))) (N (boot_o_8 P) (N (boot_o_7 P) (N (boot_o_7 P) (N (o88 P) (N (o171 P) L L) L) (N (o113 P) (N (boot_o_7 P) L L) L)) (N (boot_o_7 P) (N (o107 P) (N (o189 P) L L) L) (N (o151 P) (N (o229 P) L L) L))) (N (o43 P) (N (o61 P) (N (o98 P) (N (boot_o_7 P) L L) L) (N (o139 P) (N (boot_o_7 P) L L) L)) (N (o79 P) (N (boot_o_7 P) (N (o200 P) L L) L) (N (o161 P) L L))))) (N (o12 P) (N (o19 P) (N (boot_o_7 P) (N (o50 P) (N (boot_o_7 P) (N (boot_o_8 P) L L) L) (N (o127 P) (N (o209 P) L L) L)) (N (boot_o_7 P) (N (o104 P) (N (o187 P) L L) L) (N (o148 P) (N (boot_o_7 P) L L) L))) (N (boot_o_7 P) (N (boot_o_8 P) (N (o95 P) (N (boot_o_7 P) L L) L) (N (o137 P) (N (boot_o_7 P) L L) L)) (N (o77 P) (N (o117 P) (N (o196 P) L L) L) (N (o157 P) L L)))) (N (o24 P) (N (o36 P) (N (boot_o_7 P) (N (boot_o_8 P) (N (o173 P) L L) L) (N (o132 P) (N (boot_o_7 P) L L) L)) (N (o72 P) (N (o111 P) (N (boot_o_8 P) L L) L) (N (boot_o_7 P) (N (boot_o_8 P) L L) L))) (N (boot_o_7 P) (N (o63 P) (N (boot_o_7 P) (N (o182 P) L L) L) (N (o142 P) (N (o223 P) L L) L)) (N (o82 P) (N (boot_o_7 P) (N (o204 P) L L) L) (N (boot_o_7 P) L L))))))))
def sC0 (w : World) (os : OsState) : SharedT := ⟨tC0 w.params, 370, lifeF, Array.mk [], drawnF, 691, os⟩
def hF (P : Params) : Heap := ⟨Array.mk (boot_o_0 P :: boot_o_1 P :: boot_o_2 P :: o13 P :: boot_o_4 P :: boot_o_5 P :: boot_o_6 P :: boot_o_7 P :: boot_o_8 P :: boot_o_9 P :: boot_o_10 P :: boot_o_7 P :: 
  o14 P :: o11 P :: o12 P :: boot_o_7 P :: boot_o_8 P :: o15 P :: boot_o_7 P :: o16 P :: o17 P :: o18 P :: o19 P :: o20 P :: 
  o21 P :: boot_o_7 P :: boot_o_8 P :: o22 P :: o23 P :: boot_o_7 P :: o24 P :: o25 P :: o26 P :: o27 P :: o28 P :: o29 P :: 
  o20 P :: o30 P :: boot_o_7 P :: boot_o_8 P :: o31 P :: o32 P :: boot_o_7 P :: o33 P :: o34 P :: o35 P :: o36 P :: o29 P :: 
  o20 P :: o37 P :: boot_o_7 P :: boot_o_8 P :: o38 P :: o39 P :: boot_o_7 P :: o40 P :: o41 P :: o42 P :: o43 P :: o29 P :: 
  o20 P :: o44 P :: boot_o_7 P :: boot_o_8 P :: o45 P :: o46 P :: boot_o_7 P :: o47 P :: o48 P :: o49 P :: o50 P :: boot_o_7 P :: 
  boot_o_8 P :: o51 P :: boot_o_7 P :: o52 P :: o53 P :: o54 P :: boot_o_7 P :: boot_o_8 P :: o55 P :: boot_o_7 P :: o56 P :: o57 P :: 
  o58 P :: boot_o_7 P :: boot_o_8 P :: o59 P :: boot_o_7 P :: o60 P :: o61 P :: o62 P :: boot_o_7 P :: boot_o_8 P :: o63 P :: boot_o_7 P :: 
  o64 P :: o65 P :: o66 P :: boot_o_7 P :: boot_o_8 P :: o67 P :: boot_o_7 P :: o68 P :: o69 P :: o70 P :: boot_o_7 P :: boot_o_8 P :: 
  o71 P :: boot_o_7 P :: o72 P :: o73 P :: o74 P :: boot_o_7 P :: boot_o_8 P :: o75 P :: boot_o_7 P :: o76 P :: o77 P :: o78 P :: 
  boot_o_7 P :: boot_o_8 P :: o79 P :: boot_o_7 P :: o80 P :: o81 P :: o82 P :: boot_o_7 P :: boot_o_8 P :: o83 P :: boot_o_7 P :: o84 P :: 
  o85 P :: o86 P :: boot_o_7 P :: boot_o_8 P :: o87 P :: boot_o_7 P :: o88 P :: o89 P :: o90 P :: boot_o_7 P :: boot_o_8 P :: o91 P :: 
  boot_o_7 P :: o92 P :: o93 P :: o94 P :: boot_o_7 P :: o20 P :: o95 P :: boot_o_7 P :: o96 P :: o97 P :: o98 P :: boot_o_7 P :: 
  boot_o_8 P :: o99 P :: boot_o_7 P :: o100 P :: o101 P :: o102 P :: boot_o_7 P :: boot_o_8 P :: o103 P :: boot_o_7 P :: o104 P :: o105 P :: 
  o106 P :: boot_o_7 P :: o107 P :: o108 P :: o109 P :: o110 P :: o111 P :: o112 P :: o113 P :: o20 P :: o114 P :: boot_o_7 P :: 
  o115 P :: o116 P :: o117 P :: boot_o_7 P :: boot_o_8 P :: o118 P :: boot_o_7 P :: o119 P :: o120 P :: o121 P :: boot_o_7 P :: boot_o_8 P :: 
  o122 P :: boot_o_7 P :: o123 P :: o124 P :: o125 P :: o126 P :: o127 P :: o128 P :: o129 P :: o130 P :: o113 P :: o20 P :: 
  o131 P :: boot_o_7 P :: o132 P :: o133 P :: o134 P :: boot_o_7 P :: boot_o_8 P :: o135 P :: boot_o_7 P :: o136 P :: o137 P :: o138 P :: 
  boot_o_7 P :: boot_o_8 P :: o139 P :: boot_o_7 P :: o140 P :: o141 P :: o142 P :: o143 P :: o144 P :: o145 P :: o146 P :: o147 P :: 
  o113 P :: o20 P :: o148 P :: boot_o_7 P :: o149 P :: o150 P :: o151 P :: boot_o_7 P :: boot_o_8 P :: o152 P :: boot_o_7 P :: o153 P :: 
  o154 P :: o155 P :: boot_o_7 P :: boot_o_8 P :: o156 P :: boot_o_7 P :: o157 P :: o158 P :: o159 P :: o160 P :: o161 P :: o162 P :: 
  o163 P :: o164 P :: boot_o_7 P :: boot_o_8 P :: o165 P :: boot_o_7 P :: o166 P :: o167 P :: o168 P :: boot_o_7 P :: boot_o_8 P :: o169 P :: 
  boot_o_7 P :: o170 P :: o171 P :: o172 P :: boot_o_7 P :: boot_o_8 P :: o173 P :: boot_o_7 P :: o174 P :: o175 P :: o176 P :: boot_o_7 P :: 
  o20 P :: o177 P :: boot_o_7 P :: o178 P :: o179 P :: o180 P :: boot_o_7 P :: boot_o_8 P :: o181 P :: boot_o_7 P :: o182 P :: o183 P :: 
  o184 P :: boot_o_7 P :: boot_o_8 P :: o185 P :: boot_o_7 P :: o186 P :: o187 P :: o188 P :: boot_o_7 P :: boot_o_8 P :: o189 P :: o190 P :: 
  o191 P :: boot_o_7 P :: boot_o_8 P :: o192 P :: boot_o_7 P :: o193 P :: o194 P :: o195 P :: boot_o_7 P :: boot_o_8 P :: o196 P :: o197 P :: 
  o198 P :: o199 P :: o200 P :: o201 P :: o202 P :: o203 P :: o204 P :: o205 P :: boot_o_7 P :: boot_o_8 P :: o206 P :: boot_o_7 P :: 
  o207 P :: o208 P :: o209 P :: boot_o_7 P :: boot_o_8 P :: o210 P :: boot_o_7 P :: o211 P :: o212 P :: o213 P :: boot_o_7 P :: boot_o_8 P :: 
  o214 P :: o215 P :: o216 P :: boot_o_7 P :: boot_o_8 P :: o217 P :: boot_o_7 P :: o218 P :: o219 P :: o220 P :: boot_o_7 P :: boot_o_8 P :: 
  o221 P :: o222 P :: o223 P :: boot_o_7 P :: boot_o_8 P :: o224 P :: boot_o_7 P :: o225 P :: o226 P :: o227 P :: boot_o_7 P :: boot_o_8 P :: 
  o228 P :: boot_o_7 P :: o229 P :: o230 P :: o231 P :: boot_o_7 P :: boot_o_8 P :: o232 P :: o233 P :: o234 P :: []), lifeF⟩
def sF (w : World) (os : OsState) : Shared := ⟨hF w.params, Array.mk [], drawnF, 691, os⟩
def KK (P : Params) : Frag := (nat_lit 2, boot_o_2 P) :: (nat_lit 3, o13 P) :: (nat_lit 15, boot_o_7 P) :: (nat_lit 17, o15 P) :: (nat_lit 18, boot_o_7 P) :: (nat_lit 20, o17 P) :: (nat_lit 21, o18 P) :: (nat_lit 22, o19 P) :: 
  (nat_lit 29, boot_o_7 P) :: (nat_lit 30, o24 P) :: (nat_lit 31, o25 P) :: (nat_lit 32, o26 P) :: (nat_lit 35, o29 P) :: (nat_lit 42, boot_o_7 P) :: (nat_lit 43, o33 P) :: (nat_lit 44, o34 P) :: 
  (nat_lit 47, o29 P) :: (nat_lit 54, boot_o_7 P) :: (nat_lit 55, o40 P) :: (nat_lit 56, o41 P) :: (nat_lit 59, o29 P) :: (nat_lit 66, boot_o_7 P) :: (nat_lit 67, o47 P) :: (nat_lit 68, o48 P) :: 
  (nat_lit 71, boot_o_7 P) :: (nat_lit 73, o51 P) :: (nat_lit 74, boot_o_7 P) :: (nat_lit 76, o53 P) :: (nat_lit 77, o54 P) :: (nat_lit 78, boot_o_7 P) :: (nat_lit 80, o55 P) :: (nat_lit 81, boot_o_7 P) :: 
  (nat_lit 83, o57 P) :: (nat_lit 84, o58 P) :: (nat_lit 85, boot_o_7 P) :: (nat_lit 87, o59 P) :: (nat_lit 88, boot_o_7 P) :: (nat_lit 90, o61 P) :: (nat_lit 91, o62 P) :: (nat_lit 92, boot_o_7 P) :: 
  (nat_lit 94, o63 P) :: (nat_lit 95, boot_o_7 P) :: (nat_lit 97, o65 P) :: (nat_lit 98, o66 P) :: (nat_lit 99, boot_o_7 P) :: (nat_lit 101, o67 P) :: (nat_lit 102, boot_o_7 P) :: (nat_lit 104, o69 P) :: 
  (nat_lit 105, o70 P) :: (nat_lit 106, boot_o_7 P) :: (nat_lit 108, o71 P) :: (nat_lit 109, boot_o_7 P) :: (nat_lit 111, o73 P) :: (nat_lit 112, o74 P) :: (nat_lit 113, boot_o_7 P) :: (nat_lit 115, o75 P) :: 
  (nat_lit 116, boot_o_7 P) :: (nat_lit 118, o77 P) :: (nat_lit 119, o78 P) :: (nat_lit 120, boot_o_7 P) :: (nat_lit 122, o79 P) :: (nat_lit 123, boot_o_7 P) :: (nat_lit 125, o81 P) :: (nat_lit 126, o82 P) :: 
  (nat_lit 127, boot_o_7 P) :: (nat_lit 129, o83 P) :: (nat_lit 130, boot_o_7 P) :: (nat_lit 132, o85 P) :: (nat_lit 133, o86 P) :: (nat_lit 134, boot_o_7 P) :: (nat_lit 136, o87 P) :: (nat_lit 137, boot_o_7 P) :: 
  (nat_lit 139, o89 P) :: (nat_lit 140, o90 P) :: (nat_lit 141, boot_o_7 P) :: (nat_lit 143, o91 P) :: (nat_lit 144, boot_o_7 P) :: (nat_lit 146, o93 P) :: (nat_lit 147, o94 P) :: (nat_lit 155, boot_o_7 P) :: 
  (nat_lit 157, o99 P) :: (nat_lit 158, boot_o_7 P) :: (nat_lit 160, o101 P) :: (nat_lit 161, o102 P) :: (nat_lit 162, boot_o_7 P) :: (nat_lit 164, o103 P) :: (nat_lit 165, boot_o_7 P) :: (nat_lit 167, o105 P) :: 
  (nat_lit 168, o106 P) :: (nat_lit 169, boot_o_7 P) :: (nat_lit 170, o107 P) :: (nat_lit 171, o108 P) :: (nat_lit 172, o109 P) :: (nat_lit 173, o110 P) :: (nat_lit 176, o113 P) :: (nat_lit 183, boot_o_7 P) :: 
  (nat_lit 185, o118 P) :: (nat_lit 186, boot_o_7 P) :: (nat_lit 188, o120 P) :: (nat_lit 189, o121 P) :: (nat_lit 190, boot_o_7 P) :: (nat_lit 192, o122 P) :: (nat_lit 193, boot_o_7 P) :: (nat_lit 195, o124 P) :: 
  (nat_lit 196, o125 P) :: (nat_lit 197, o126 P) :: (nat_lit 198, o127 P) :: (nat_lit 199, o128 P) :: (nat_lit 202, o113 P) :: (nat_lit 209, boot_o_7 P) :: (nat_lit 211, o135 P) :: (nat_lit 212, boot_o_7 P) :: 
  (nat_lit 214, o137 P) :: (nat_lit 215, o138 P) :: (nat_lit 216, boot_o_7 P) :: (nat_lit 218, o139 P) :: (nat_lit 219, boot_o_7 P) :: (nat_lit 221, o141 P) :: (nat_lit 222, o142 P) :: (nat_lit 223, o143 P) :: 
  (nat_lit 224, o144 P) :: (nat_lit 225, o145 P) :: (nat_lit 228, o113 P) :: (nat_lit 235, boot_o_7 P) :: (nat_lit 237, o152 P) :: (nat_lit 238, boot_o_7 P) :: (nat_lit 240, o154 P) :: (nat_lit 241, o155 P) :: 
  (nat_lit 242, boot_o_7 P) :: (nat_lit 244, o156 P) :: (nat_lit 245, boot_o_7 P) :: (nat_lit 247, o158 P) :: (nat_lit 248, o159 P) :: (nat_lit 249, o160 P) :: (nat_lit 250, o161 P) :: (nat_lit 251, o162 P) :: 
  (nat_lit 254, boot_o_7 P) :: (nat_lit 256, o165 P) :: (nat_lit 257, boot_o_7 P) :: (nat_lit 259, o167 P) :: (nat_lit 260, o168 P) :: (nat_lit 261, boot_o_7 P) :: (nat_lit 263, o169 P) :: (nat_lit 264, boot_o_7 P) :: 
  (nat_lit 266, o171 P) :: (nat_lit 267, o172 P) :: (nat_lit 268, boot_o_7 P) :: (nat_lit 270, o173 P) :: (nat_lit 271, boot_o_7 P) :: (nat_lit 273, o175 P) :: (nat_lit 274, o176 P) :: (nat_lit 282, boot_o_7 P) :: 
  (nat_lit 284, o181 P) :: (nat_lit 285, boot_o_7 P) :: (nat_lit 287, o183 P) :: (nat_lit 288, o184 P) :: (nat_lit 289, boot_o_7 P) :: (nat_lit 291, o185 P) :: (nat_lit 292, boot_o_7 P) :: (nat_lit 294, o187 P) :: 
  (nat_lit 295, o188 P) :: (nat_lit 296, boot_o_7 P) :: (nat_lit 299, o190 P) :: (nat_lit 300, o191 P) :: (nat_lit 301, boot_o_7 P) :: (nat_lit 303, o192 P) :: (nat_lit 304, boot_o_7 P) :: (nat_lit 306, o194 P) :: 
  (nat_lit 307, o195 P) :: (nat_lit 308, boot_o_7 P) :: (nat_lit 311, o197 P) :: (nat_lit 312, o198 P) :: (nat_lit 313, o199 P) :: (nat_lit 314, o200 P) :: (nat_lit 315, o201 P) :: (nat_lit 316, o202 P) :: 
  (nat_lit 317, o203 P) :: (nat_lit 320, boot_o_7 P) :: (nat_lit 322, o206 P) :: (nat_lit 323, boot_o_7 P) :: (nat_lit 325, o208 P) :: (nat_lit 326, o209 P) :: (nat_lit 327, boot_o_7 P) :: (nat_lit 329, o210 P) :: 
  (nat_lit 330, boot_o_7 P) :: (nat_lit 332, o212 P) :: (nat_lit 333, o213 P) :: (nat_lit 334, boot_o_7 P) :: (nat_lit 337, o215 P) :: (nat_lit 338, o216 P) :: (nat_lit 339, boot_o_7 P) :: (nat_lit 341, o217 P) :: 
  (nat_lit 342, boot_o_7 P) :: (nat_lit 344, o219 P) :: (nat_lit 345, o220 P) :: (nat_lit 346, boot_o_7 P) :: (nat_lit 349, o222 P) :: (nat_lit 350, o223 P) :: (nat_lit 351, boot_o_7 P) :: (nat_lit 353, o224 P) :: 
  (nat_lit 354, boot_o_7 P) :: (nat_lit 356, o226 P) :: (nat_lit 357, o227 P) :: (nat_lit 358, boot_o_7 P) :: (nat_lit 360, o228 P) :: (nat_lit 361, boot_o_7 P) :: (nat_lit 363, o230 P) :: (nat_lit 364, o231 P) :: 
  (nat_lit 365, boot_o_7 P) :: (nat_lit 368, o233 P) :: (nat_lit 369, o234 P) :: []
def keysK : List Addr := 2 :: 3 :: 15 :: 17 :: 18 :: 20 :: 21 :: 22 :: 29 :: 30 :: 31 :: 32 :: 35 :: 42 :: 43 :: 44 :: 47 :: 54 :: 55 :: 56 :: 59 :: 66 :: 67 :: 68 :: 
  71 :: 73 :: 74 :: 76 :: 77 :: 78 :: 80 :: 81 :: 83 :: 84 :: 85 :: 87 :: 88 :: 90 :: 91 :: 92 :: 94 :: 95 :: 97 :: 98 :: 99 :: 101 :: 102 :: 104 :: 
  105 :: 106 :: 108 :: 109 :: 111 :: 112 :: 113 :: 115 :: 116 :: 118 :: 119 :: 120 :: 122 :: 123 :: 125 :: 126 :: 127 :: 129 :: 130 :: 132 :: 133 :: 134 :: 136 :: 137 :: 
  139 :: 140 :: 141 :: 143 :: 144 :: 146 :: 147 :: 155 :: 157 :: 158 :: 160 :: 161 :: 162 :: 164 :: 165 :: 167 :: 168 :: 169 :: 170 :: 171 :: 172 :: 173 :: 176 :: 183 :: 
  185 :: 186 :: 188 :: 189 :: 190 :: 192 :: 193 :: 195 :: 196 :: 197 :: 198 :: 199 :: 202 :: 209 :: 211 :: 212 :: 214 :: 215 :: 216 :: 218 :: 219 :: 221 :: 222 :: 223 :: 
  224 :: 225 :: 228 :: 235 :: 237 :: 238 :: 240 :: 241 :: 242 :: 244 :: 245 :: 247 :: 248 :: 249 :: 250 :: 251 :: 254 :: 256 :: 257 :: 259 :: 260 :: 261 :: 263 :: 264 :: 
  266 :: 267 :: 268 :: 270 :: 271 :: 273 :: 274 :: 282 :: 284 :: 285 :: 287 :: 288 :: 289 :: 291 :: 292 :: 294 :: 295 :: 296 :: 299 :: 300 :: 301 :: 303 :: 304 :: 306 :: 
  307 :: 308 :: 311 :: 312 :: 313 :: 314 :: 315 :: 316 :: 317 :: 320 :: 322 :: 323 :: 325 :: 326 :: 327 :: 329 :: 330 :: 332 :: 333 :: 334 :: 337 :: 338 :: 339 :: 341 :: 
  342 :: 344 :: 345 :: 346 :: 349 :: 350 :: 351 :: 353 :: 354 :: 356 :: 357 :: 358 :: 360 :: 361 :: 363 :: 364 :: 365 :: 368 :: 369 :: []
def loose : List Str := Str.ofString "_wall" :: Str.ofString "JugError" :: Str.ofString "BadHouse" :: Str.ofString "BadState" :: Str.ofString "BadMove" :: Str.ofString "MOST_JUGS" :: Str.ofString "MOST_SIZE" :: Str.ofString "is_number" :: 
  Str.ofString "is_jug" :: Str.ofString "held_in" :: Str.ofString "ways_from" :: Str.ofString "reached" :: Str.ofString "measured" :: Str.ofString "tied" :: Str.ofString "check_jug" :: Str.ofString "check_house_has" :: 
  Str.ofString "check_house_can_tap" :: Str.ofString "with_amount" :: Str.ofString "Move" :: Str.ofString "Pour" :: Str.ofString "Fill" :: Str.ofString "Empty" :: Str.ofString "MOST_STATES" :: Str.ofString "sizes_in" :: 
  Str.ofString "count_states" :: Str.ofString "pours_among" :: Str.ofString "House" :: Str.ofString "_law_cell_at" :: Str.ofString "_law_draw" :: Str.ofString "_law_sizes" :: Str.ofString "_law_state" :: Str.ofString "_law_all_moves" :: 
  Str.ofString "_law_behind" :: Str.ofString "_law_reached" :: []
def env : Env := { scope := pg.main.scope, locals := mainNs, globals := mainNs, cells := [], code := (.ref 13), frame := some 14 }
abbrev cE : Code := .body (behindTheImports pg) env
abbrev pos0 : Pos := (.mk 0 0 0 0)
abbrev posB : Pos := (.mk 0 0 0 0)
abbrev posQ : Pos := (.mk 0 0 0 0)
abbrev ann : Option Value := (some (.ref 6))

abbrev s0 (w : World) (os : OsState) : Shared := ⟨boot_heap w.params, Array.mk [], boot_drawn, boot_toks, os⟩
theorem pre_ (w : World) (os : OsState) : topGo treeTable pg w 11 ann 12 (s0 w os) (topStub pg) = some (sA w os, ⟨denote treeTable cE, cE, pos0, [topFrame posQ]⟩) := by
  rewrite [Fast.te15667345088766844465, Fast.te14364793385576792824, Fast.te11892475500146522536]
  kernel_rfl
theorem block_ (w : World) (os : OsState) : segRun treeTable pg w 11 ann 1 1 (sA w os) (blockOf (behindTheImports pg) env cE pos0 [topFrame posQ]) = some (.next, (sB w os).abs, cE, posB) := by
  rewrite [Fast.te14374325043358763698, Fast.te14364793385576792824]
  kernel_rfl
abbrev pos_0 : Pos := (.mk 216 0 242 132)
theorem run_0 (w : World) (os : OsState) : segRunT treeTable pg w 11 ann 1 3061 (sB w os) (piecesOf (behindTheImports pg) env cE posB [topFrame posQ]) = some (.next, sC0 w os, cE, pos_0) := by
  rewrite [Fast.te10110043849684766642, Fast.te14364793385576792824]
  kernel_rfl
theorem fin_ (w : World) (os : OsState) : topRun treeTable pg w 11 ann 2 (sC0 w os).abs ⟨doneF .next, cE, pos_0, [topFrame posQ]⟩ = some (sF w os) := by
  rewrite [Fast.te14082659384304107361, Fast.te14364793385576792824]
  kernel_rfl
theorem top_ (w : World) (os : OsState) : topRun treeTable pg w 11 ann (12 + (1 + (3061 + 2))) (s0 w os) (topStub pg) = some (sF w os) := by
  refine go_top (pre_ w os) (piece_block (block_ w os) ?_)
  have h := piece_app (segRun_of (run_0 w os)) (piece_nil (fin_ w os))
  rwa [List.append_nil] at h
def qq : Program := { pg with main := { pg.main with body := [st 40] } }
theorem keys_ (P : Params) : keysK = (KK P).map (·.1) := by kernel_rfl
theorem open_ : ∀ w : World, (fencedOpening treeTable pg w 6246).map (fun s => (s.heap, s.gens, s.drawn, s.toks)) = some (boot_heap w.params, Array.mk [], boot_drawn, boot_toks) :=
  boot_open (by kernel_rfl) (by decide) (fun s => by kernel_rfl)
theorem size_ (w : World) : ((boot_heap w.params).isNs mainGlobals && (Array.mk [] : Array GenState).size == 0, (boot_heap w.params).objs.size, (boot_heap w.params).nsMap mainGlobals "__annotations__") = (true, 11, ann) := by kernel_rfl
abbrev rr : RowW := OpenRow.toRowW (OpenLaw.row PySem.Challenge.rw_jughouse_k02_reached)
def Xt (s : Shared) : Bool := xlAt qq [] s && recOk (RowW.records rr) s
theorem look1 (w : World) (os : OsState) : (staticsOk (importedModules pg.main.body) (boot_heap w.params) (hF w.params) && namesBound pg (hF w.params) && gensDone (sF w os) && laidKept (boot_heap w.params) (hF w.params)) = true := by kernel_rfl
theorem look2 (w : World) (os : OsState) : openSeen qq loose (importedModules pg.main.body) Xt true (sF w os) = openGood qq loose := by
  rewrite [Fast.te4187177175401517315]
  kernel_rfl
theorem look3 (w : World) (os : OsState) : Hook.obs (kHook KK keysK keys_) (sF w os) = Hook.val (kHook KK keysK keys_) w := by kernel_rfl
theorem left_ : LeftO pg qq loose Xt (Hook.obs (kHook KK keysK keys_)) (Hook.val (kHook KK keysK keys_)) 6246 :=
  LeftO.of_pieces open_ size_ top_ (by decide) (fun w => funext fun os => looks_pair (look1 w os) (looks_pair (look2 w os) (look3 w os)))
end Hd
end
open PySem PySem.W PyProof.Rows
set_option maxRecDepth 100000 in
set_option maxHeartbeats 0 in
theorem PySem.Challenge.cw_jughouse_k02_reached_holds : PySem.Challenge.rw_jughouse_k02_reached.Holds := by
  w_on; o_law
  refine holds_open (N := 6246)
    (q := Hd.qq) (loose := Hd.loose) (Xt := Hd.Xt)
    (XP := XL Hd.qq []) (YP := Hook.says (kHook Hd.KK Hd.keysK Hd.keys_))
    Hd.left_ (Hook.of (kHook Hd.KK Hd.keysK Hd.keys_)) (Hook.keeps (kHook Hd.KK Hd.keysK Hd.keys_))
    (fun s e => xl_of s (Bool.and_eq_true_iff.mp e).1)
    XL.keeps (by rfl) (by rfl) (by rfl)
    (fun s e => recFacts_of (Bool.and_eq_true_iff.mp e).2)
    (by rfl) (by assumption) (by decide +kernel)
    ⟨rfl, rfl, rfl, rfl, rfl, by decide +kernel⟩ ?hw ?hc
  (case hw => w_witness2)
  k_fill
  refine Jug.walk (l := PySem.Challenge.rw_jughouse_k02_reached) rfl rfl (fun w h Y => PySem.W.kIn_of Y) ?F
  case F =>
    intro w mg fa h KX G hmg
    refine' Jug.all_mk KX G hmg ?_ ?_ ?_ ?_ ?_ ?_ ?_ ?_ ?_ ?_ ?_ ?_ ?_ ?_ ?_ ?_ ?_ ?_ ?_ ?_ ?_ ?_ ?_ ?_ ?_ ?_ ?_ ?_ ?_ ?_ ?_ ?_ ?_ ?_ ?_ ?_ ?_ ?_ ?_ ?_ ?_ ?_ ?_ ?_ ?_ ?_ ?_ ?_ ?_ ?_ ?_ ?_ ?_ ?_ ?_ ?_ ?_ ?_ ?_ ?_ ?_ ?_ ?_ ?_ ?_ ?_ ?_ ?_ ?_ ?_ ?_ ?_ ?_ ?_ ?_ ?_ ?_ ?_ ?_ ?_ ?_ ?_ ?_ ?_ ?_ ?_ ?_ ?_ ?_ ?_ ?_ ?_ ?_ ?_ ?_ ?_ ?_ ?_ ?_ ?_ ?_ ?_ ?_ ?_ ?_ ?_ ?_ ?_ ?_ ?_ ?_ ?_ ?_ ?_ ?_ ?_ ?_ ?_ ?_ ?_ ?_ ?_ ?_ ?_ ?_ ?_ ?_ ?_ ?_ ?_ ?_ ?_ ?_ ?_ ?_ ?_ ?_ ?_ ?_ ?_ ?_ ?_ ?_ ?_ ?_ ?_ ?_ ?_ ?_ ?_ ?_ ?_ ?_ ?_ ?_ ?_ ?_ ?_ ?_ ?_ ?_ ?_ ?_ ?_ ?_ ?_ ?_ ?_ ?_ ?_ ?_ ?_ ?_ ?_ ?_ ?_ ?_ ?_ ?_ ?_ ?_ ?_ ?_ ?_ ?_ ?_ ?_ ?_ ?_ ?_ ?_ ?_ ?_ ?_ ?_ ?_ ?_ ?_ ?_ ?_
    all_goals (try first | k_is | kit_is)

