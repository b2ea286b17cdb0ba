import PyProof.Rows.All
import Wide.All
import OpenK.AllK
import Wide.FinOn
import Lean
import PyProof.EqAt
import PyProof.EqKinds
import PyProof.TupleCall
import PyProof.NeKinds
import PyProof.Rows.ZipGen
import KE.KIntText
import PyProof.ListRange
import KE.LcSums
import PyProof.Rows.SetFrom
import PyProof.SetRoads
import KE.KDictList
import KE.KDictSum
import KE.KRevIter
import KE.KRangeStep
import KE.KSorted
import KE.KItemsList
import PyProof.Rows.MinMaxN
import PyProof.Rows.Range3
import PySem.Challenge.RW_jughouse_k06_whole_two_jugs
set_option Elab.async false
set_option linter.all false
set_option maxRecDepth 100000
/-! THE HAND LAYER, for ints, bools, texts, own classes, LISTS and tuples (index, slices, in, append, pop ..), calls, loops. Paste it whole ahead of your own text; what your proof does not reach may be deleted. -/
namespace L2
open PySem PySem.Spec PyProof.Rows

/-- a key: an int or a str -/
abbrev Key := Sum Int Str
def keyIs : Key → Value → Bool
  | .inl k, v => Value.isInt k v
  | .inr x, v => Value.isStrOf x v
def keyH (w : World) : Key → Int
  | .inl k => hashInt k
  | .inr x => hashStr w x
theorem keyIs_shape : ∀ {k : Key} {v : Value}, keyIs k v = true → (∃ i t, k = Sum.inl i ∧ v = Value.int i t) ∨ (∃ x t, k = Sum.inr x ∧ v = Value.str x t)
  | .inl i, v, h => by
    obtain ⟨t, e⟩ := Value.isInt_shape (k := i) (v := v) h
    exact .inl ⟨i, t, rfl, e⟩
  | .inr x, v, h => by
    obtain ⟨t, e⟩ := Value.isStrOf_shape (x := x) (v := v) h
    exact .inr ⟨x, t, rfl, e⟩
theorem keyIs_int (i : Int) (t : Tok) : keyIs (.inl i) (.int i t) = true := by simp [keyIs, Value.isInt]
theorem keyIs_str (x : Str) (t : Tok) : keyIs (.inr x) (.str x t) = true := by simp [keyIs, Value.isStrOf]
theorem key_ll (a b : Int) : decide ((Sum.inl a : Key) = Sum.inl b) = (a == b) := by
  by_cases e : a = b
  · subst e; simp
  · have h : ¬ (Sum.inl a : Key) = Sum.inl b := fun q => e (Sum.inl.inj q)
    rw [decide_eq_false h]
    exact (beq_eq_false_iff_ne.mpr e).symm
theorem key_rr (a b : Str) : decide ((Sum.inr a : Key) = Sum.inr b) = decide (a = b) := by
  by_cases e : a = b
  · subst e; simp
  · have h : ¬ (Sum.inr a : Key) = Sum.inr b := fun q => e (Sum.inr.inj q)
    rw [decide_eq_false h, decide_eq_false e]
theorem key_lr (a : Int) (b : Str) : decide ((Sum.inl a : Key) = Sum.inr b) = false := decide_eq_false (fun q => nomatch q)
theorem key_rl (a : Str) (b : Int) : decide ((Sum.inr a : Key) = Sum.inl b) = false := decide_eq_false (fun q => nomatch q)

def mixKind (prog : Program) (w : World) : PySem.KeyKind prog w Key where
  is := keyIs
  hash := keyH w
  inj := fun v a b ha hb => by
    rcases keyIs_shape ha with ⟨i, t, rfl, rfl⟩ | ⟨x, t, rfl, rfl⟩
    · rcases keyIs_shape hb with ⟨j, u, rfl, e⟩ | ⟨y, u, rfl, e⟩
      · injection e with e1 _; rw [e1]
      · exact nomatch e
    · rcases keyIs_shape hb with ⟨j, u, rfl, e⟩ | ⟨y, u, rfl, e⟩
      · exact nomatch e
      · injection e with e1 _; rw [e1]
  byValue := fun k v h => by
    rcases keyIs_shape h with ⟨i, t, rfl, rfl⟩ | ⟨x, t, rfl, rfl⟩ <;> rfl
  pyHash := fun hv h => by
    rcases keyIs_shape hv with ⟨i, t, rfl, rfl⟩ | ⟨x, t, rfl, rfl⟩
    · exact wpAny_pyHash_int h
    · exact wpAny_pyHash_str h
  eqBool := fun hu hv h => by
    rcases keyIs_shape hu with ⟨i, t, rfl, rfl⟩ | ⟨x, t, rfl, rfl⟩
    · rcases keyIs_shape hv with ⟨j, u, rfl, rfl⟩ | ⟨y, u, rfl, rfl⟩
      · rw [key_ll] at h; exact wpAny_eqBool_int h
      · rw [key_lr] at h; exact SeqAt.EqAt.int_str i t y u _ _ _ _ h
    · rcases keyIs_shape hv with ⟨j, u, rfl, rfl⟩ | ⟨y, u, rfl, rfl⟩
      · rw [key_rl] at h; exact SeqAt.EqAt.str_int x t j u _ _ _ _ h
      · rw [key_rr] at h; exact wpAny_eqBool_str h
  «strs» := fun k x t v h => by
    rcases keyIs_shape h with ⟨i, u, rfl, e⟩ | ⟨y, u, rfl, e⟩
    · exact nomatch e
    · injection e with e1 _
      subst e1
      cases v <;> rfl

theorem mixKind_int (prog : Program) (w : World) (i : Int) (t : Tok) : (mixKind prog w).is (.inl i) (.int i t) = true := keyIs_int i t
theorem mixKind_str (prog : Program) (w : World) (x : Str) (t : Tok) : (mixKind prog w).is (.inr x) (.str x t) = true := keyIs_str x t
end L2

namespace L2
open PySem PySem.Spec PyProof.Rows

/-- a value, without the heap -/
inductive V where
  | non | bl (b : Bool) | int (i : Int) | str (x : Str) | byt (b : Array UInt8) | flt (b : UInt64) | ref (a : Addr) | ty (n : String)
  deriving DecidableEq

def RelV : V → Value → Prop
  | .non, u => u = Value.none
  | .bl b, u => u = Value.bool b
  | .int i, u => ∃ t, u = Value.int i t
  | .str x, u => ∃ t, u = Value.str x t
  | .byt b, u => ∃ t, u = Value.bytes b t
  | .flt b, u => ∃ t, u = Value.float b t
  | .ref a, u => u = Value.ref a
  | .ty n, u => u = Value.type n

abbrev Vals : List V → List Value → Prop := Paired RelV
theorem Vals.length {xs : List V} {us : List Value} (r : Vals xs us) : xs.length = us.length := Paired.length r
theorem Vals.get : ∀ {xs : List V} {us : List Value} {i : Nat} {x : V}, Vals xs us → xs[i]? = some x → ∃ u, us[i]? = some u ∧ RelV x u
  | _, _, _, _, .nil, e => by simp at e
  | _, _, 0, _, .cons r _, e => by simp at e; subst e; exact ⟨_, rfl, r⟩
  | _, _, i + 1, x, .cons _ t, e => by
    obtain ⟨u, h1, h2⟩ := Vals.get (i := i) (x := x) t (by simpa using e)
    exact ⟨u, by simpa using h1, h2⟩
theorem Vals.set {x : V} {u : Value} (r : RelV x u) : ∀ {xs : List V} {us : List Value} (i : Nat), Vals xs us → Vals (xs.set i x) (us.set i u)
  | _, _, _, .nil => .nil
  | _, _, 0, .cons _ t => .cons r t
  | _, _, i + 1, .cons q t => .cons q (Vals.set r i t)
theorem Vals.append : ∀ {xs ys : List V} {us ws : List Value}, Vals xs us → Vals ys ws → Vals (xs ++ ys) (us ++ ws)
  | _, _, _, _, .nil, s => s
  | _, _, _, _, .cons r t, s => .cons r (Vals.append t s)

def RelO : Option V → Option Value → Prop
  | some v, some u => RelV v u
  | none, none => True
  | _, _ => False
def KV {κ : Type} : List (κ × V) → List (κ × Value) → Prop := Paired fun (p : κ × V) (q : κ × Value) => p.1 = q.1 ∧ RelV p.2 q.2

/-- a key of a dict (00_mix): an int or a text -/
def kV : Key → V
  | .inl i => .int i
  | .inr x => .str x

/-- what stands at a tracked address -/
inductive HO where
  /-- a list -/
  | lst (xs : List V)
  /-- a tuple (never changes) -/
  | tup (xs : List V)
  /-- a dict whose keys are ints and texts; one whose keys are tuples of ints and texts (the empty one is both) -/
  | dK (kvs : List (Key × V)) | dT (kvs : List (List Key × V))
  /-- a set of ints: its members, its size -/
  | set (S : Int → Bool) (n : Nat)
  /-- an instance of the class at C, its dict at dx, its attributes -/
  | ins (C dx : Addr) (fs : List (Str × V))
  /-- the dict of the instance at x -/
  | own (x : Addr)
  /-- the dict of an exception -/
  | xd (fs : List (Str × V))
  /-- a bound method, f of x -/
  | met (f x : Addr)
  /-- a range object lo, lo + 1, .. below hi -/
  | rng (lo hi : Int)
  /-- a thing that is known to the object (the script; a dict while a loop walks it): read, never written while it is so -/
  | frz (o : Obj) (u : HO)
  /-- a code object's table -/
  | tbl (ps : Array Value)
  /-- any other thing, by what is true of its one object (a def of one's own: SetO a S n := HO.ext fun h => ..) -/
  | ext (φ : Heap → Prop)

abbrev Hp := Addr → Option HO
def upd (H : Hp) (a : Addr) (o : HO) : Hp := fun b => if b = a then some o else H b
theorem upd_same {H : Hp} {a : Addr} {o : HO} : upd H a o a = some o := by unfold upd; rw [if_pos rfl]
theorem upd_ne {H : Hp} {a b : Addr} {o : HO} (h : b ≠ a) : upd H a o b = H b := by unfold upd; rw [if_neg h]
theorem upd_upd {H : Hp} {a : Addr} {o u : HO} : upd (upd H a o) a u = upd H a u := by
  funext b; unfold upd; split <;> rfl
/-- two objects of different content stand apart -/
theorem ne_of {H : Hp} {a b : Addr} {o u : HO} (h : H a = some o) (h' : H b = some u) (d : o ≠ u) : a ≠ b := by
  intro e; subst e; rw [h] at h'; exact d (Option.some.inj h')
theorem ne_of_none {H : Hp} {a b : Addr} {o : HO} (h : H a = some o) (h' : H b = none) : a ≠ b := by
  intro e; subst e; rw [h] at h'; cases h'

section
variable (P : Program) (w : World)
def ObjOk (H : Hp) (h : Heap) (a : Addr) : HO → Prop
  | .lst xs => xs.length ≤ sizeLine ∧ ∃ (its : List Value) (n : Nat), Vals xs its ∧ h.get? a = some { cls := .type "list", data := .seq its.toArray n }
  | .tup xs => xs.length ≤ sizeLine ∧ ∃ its : List Value, Vals xs its ∧ IsTup h a its.toArray
  | .dK kvs => kvs.length ≤ sizeLine ∧ (a == sysModules) = false ∧ ∃ vs, KV kvs vs ∧ h.DictOf (mixKind P w) a vs
  | .dT kvs => kvs.length ≤ sizeLine ∧ (a == sysModules) = false ∧ ∃ xs : List (List Key × Addr × Value),
      Paired (fun (p : List Key × V) (q : List Key × Addr × Value) => p.1 = q.1 ∧ H q.2.1 = some (.tup (p.1.map kV)) ∧ RelV p.2 q.2.2) kvs xs ∧
      ∃ o es ep, h.get? a = some o ∧ o.ExactDict ∧ o.data = .dict es ep ∧ es.toList = xs.map (entryOfKey (tupleKind (mixKind P w))) ∧ (xs.map (·.1)).Nodup
  | .set S n => h.SetOf (intKind P w) a S n
  | .ins C dx fs => H dx = some (.own a) ∧ fs.length ≤ 1000 ∧ dx ≠ a ∧ h.get? a = some (PySem.W.instObj C dx) ∧
      ∃ mA, h.Ns1 dx mA ∧ (∀ f, RelO (fs.lookup f) (mA f)) ∧ PySem.Within mA (fs.map (·.1))
  | .own _ => ∃ o, h.get? a = some o
  | .xd fs => ∃ mA, h.Ns1 a mA ∧ ∀ f, RelO (fs.lookup f) (mA f)
  | .rng lo hi => ∃ t u v, h.get? a = some { cls := .type "range", data := .fields #[.int lo t, .int hi u, .int 1 v] }
  | .frz o u => h.get? a = some o ∧ ObjOk H h a u
  | .tbl ps => h.get? a = some { cls := .none, data := .fields ps }
  | .met f x => h.get? a = some (PySem.W.methodObj (.ref f) (.ref x))
  | .ext φ => φ h ∧ (∃ o, h.get? a = some o) ∧ ∀ h1 h2 : Heap, φ h1 → (∀ o, h1.get? a = some o → h2.get? a = some o) → φ h2
/-- the abstract heap is held -/
def HOk (H : Hp) (h : Heap) : Prop := ∀ a o, H a = some o → ObjOk P w H h a o
end

section
variable {P : Program} {w : World} {H H' : Hp} {h h' : Heap} {a : Addr} {o : HO}
theorem ObjOk.lt (x : ObjOk P w H h a o) : a < h.objs.size := by
  cases o with
  | lst xs => obtain ⟨_, _, _, _, e⟩ := x; exact Heap.lt_size e
  | tup xs => obtain ⟨_, _, _, p⟩ := x; exact p.lt
  | dK kvs => obtain ⟨_, _, _, _, o, _, _, e, _⟩ := x; exact Heap.lt_size e
  | dT kvs => obtain ⟨_, _, _, _, o, _, _, e, _⟩ := x; exact Heap.lt_size e
  | set S n => obtain ⟨o, _, _, _, e, _⟩ := x; exact Heap.lt_size e
  | ins C dx fs => obtain ⟨_, _, _, e, _⟩ := x; exact Heap.lt_size e
  | own y => obtain ⟨_, e⟩ := x; exact Heap.lt_size e
  | xd fs => obtain ⟨_, ⟨_, _, _, e, _⟩, _⟩ := x; exact Heap.lt_size e
  | rng lo hi => obtain ⟨_, _, _, e⟩ := x; exact Heap.lt_size e
  | frz ob u => obtain ⟨e, _⟩ := x; exact Heap.lt_size e
  | tbl ps => exact Heap.lt_size (show h.get? a = some _ from x)
  | met f y => exact Heap.lt_size (show h.get? a = some _ from x)
  | ext φ => obtain ⟨_, ⟨_, e⟩, _⟩ := x; exact Heap.lt_size e
theorem Paired.mapP {α β : Type} {F G : α → β → Prop} : ∀ {l₁ : List α} {l₂ : List β}, Paired F l₁ l₂ → (∀ a b, F a b → G a b) → Paired G l₁ l₂
  | _, _, .nil, _ => .nil
  | _, _, .cons r t, f => .cons (f _ _ r) (Paired.mapP t f)
/-- what an object's description leans on: its own object, its own dict, the tuples -/
theorem ObjOk.stay (x : ObjOk P w H h a o) (k : ∀ b u, (b = a ∨ H b = some (.own a)) → h.get? b = some u → h'.get? b = some u)
    (ho : ∀ b, H b = some (.own a) → H' b = some (.own a)) (ht : ∀ b xs, H b = some (.tup xs) → H' b = some (.tup xs)) : ObjOk P w H' h' a o := by
  induction o with
  | lst xs => obtain ⟨z, its, n, r, e⟩ := x; exact ⟨z, its, n, r, k _ _ (.inl rfl) e⟩
  | tup xs => obtain ⟨z, its, r, ob, e, c⟩ := x; exact ⟨z, its, r, ob, k _ _ (.inl rfl) e, c⟩
  | dK kvs => obtain ⟨z, y, vs, r, ob, es, ep, e, c⟩ := x; exact ⟨z, y, vs, r, ob, es, ep, k _ _ (.inl rfl) e, c⟩
  | dT kvs =>
    obtain ⟨z, y, xs, r, ob, es, ep, e, c⟩ := x
    exact ⟨z, y, xs, Paired.mapP r fun p q z => ⟨z.1, ht _ _ z.2.1, z.2.2⟩, ob, es, ep, k _ _ (.inl rfl) e, c⟩
  | set S n => obtain ⟨ob, es, ep, t, e, c⟩ := x; exact ⟨ob, es, ep, t, k _ _ (.inl rfl) e, c⟩
  | ins C dx fs =>
    obtain ⟨d, z, ne, e, mA, ⟨od, es, ep, e2, c⟩, r⟩ := x
    exact ⟨ho _ d, z, ne, k _ _ (.inl rfl) e, mA, ⟨od, es, ep, k _ _ (.inr d) e2, c⟩, r⟩
  | own y => obtain ⟨ob, e⟩ := x; exact ⟨ob, k _ _ (.inl rfl) e⟩
  | xd fs => obtain ⟨mA, ⟨od, es, ep, e, c⟩, r⟩ := x; exact ⟨mA, ⟨od, es, ep, k _ _ (.inl rfl) e, c⟩, r⟩
  | rng lo hi => obtain ⟨t, u, v, e⟩ := x; exact ⟨t, u, v, k _ _ (.inl rfl) e⟩
  | frz ob u ih => obtain ⟨e, q⟩ := x; exact ⟨k _ _ (.inl rfl) e, ih q⟩
  | tbl ps =>
    have e : h.get? a = some { cls := .none, data := .fields ps } := x
    show h'.get? a = some { cls := .none, data := .fields ps }
    exact k a _ (.inl rfl) e
  | met f y =>
    have e : h.get? a = some (PySem.W.methodObj (.ref f) (.ref y)) := x
    show h'.get? a = some (PySem.W.methodObj (.ref f) (.ref y))
    exact k a _ (.inl rfl) e
  | ext φ => obtain ⟨p, ⟨o, e⟩, st⟩ := x; exact ⟨st _ _ p fun o q => k _ _ (.inl rfl) q, ⟨o, k _ _ (.inl rfl) e⟩, st⟩
theorem HOk.lt (x : HOk P w H h) (e : H a = some o) : a < h.objs.size := (x a o e).lt
theorem HOk.fresh (x : HOk P w H h) (e : h.objs.size ≤ a) : H a = none := by
  cases q : H a with
  | none => rfl
  | some u => exact absurd (Nat.lt_of_lt_of_le (x.lt q) e) (Nat.lt_irrefl _)
/-- every object of the heap is kept -/
theorem HOk.kept (x : HOk P w H h) (k : ∀ b u, h.get? b = some u → h'.get? b = some u) : HOk P w H h' := fun a o e =>
  (x a o e).stay (fun b u _ q => k b u q) (fun _ q => q) fun _ _ q => q
/-- a new object is laid and tracked -/
theorem HOk.laid (x : HOk P w H h) (k : ∀ b u, h.get? b = some u → h'.get? b = some u) (hp : h.objs.size ≤ a) (new : ObjOk P w (upd H a o) h' a o) : HOk P w (upd H a o) h' := fun b u e => by
  have hn := x.fresh hp
  by_cases hb : b = a
  · subst hb; rw [upd_same] at e; cases e; exact new
  · rw [upd_ne hb] at e
    exact (x b u e).stay (fun c v _ q => k c v q) (fun c q => by rw [upd_ne (ne_of_none q hn)]; exact q) fun c xs q => by rw [upd_ne (ne_of_none q hn)]; exact q
end

/-- what may be read as u: it is u, or a known u -/
def Rd (H : Hp) (a : Addr) (u : HO) : Prop := H a = some u ∨ ∃ o, H a = some (.frz o u)
theorem Rd.ok {P : Program} {w : World} {H : Hp} {h : Heap} {a : Addr} {u : HO} (r : Rd H a u) (x : HOk P w H h) : ObjOk P w H h a u := by
  rcases r with r | ⟨o, r⟩
  · exact x a u r
  · obtain ⟨_, q⟩ := x a _ r
    exact q
/-- what may be written -/
def Mut : Option HO → Prop
  | some (.lst _) => True
  | some (.dK _) => True
  | some (.dT _) => True
  | some (.set _ _) => True
  | some (.ins _ _ _) => True
  | some (.ext _) => True
  | _ => False
section
variable {P : Program} {w : World} {H : Hp} {h h' : Heap} {x e : Addr} {o' : HO}
/-- the object at e is changed: x itself, or the dict of the instance x -/
theorem HOk.write (ok : HOk P w H h) (mu : Mut (H x)) (he : e = x ∨ H e = some (.own x)) (k : ∀ b u, b ≠ e → h.get? b = some u → h'.get? b = some u) (heo : ∃ u, h'.get? e = some u)
    (new : ObjOk P w (upd H x o') h' x o') : HOk P w (upd H x o') h' := fun b u q => by
  have nown : ∀ c y, H c = some (.own y) → c ≠ x := fun c y r z => by subst z; rw [r] at mu; exact mu
  have ntup : ∀ c xs, H c = some (.tup xs) → c ≠ x := fun c xs r z => by subst z; rw [r] at mu; exact mu
  by_cases hb : b = x
  · subst hb; rw [upd_same] at q; cases q; exact new
  · rw [upd_ne hb] at q
    by_cases hbe : b = e
    · have q' : H b = some (.own x) := by
        rcases he with z | z
        · exact absurd (hbe.trans z) hb
        · rw [hbe]; exact z
      rw [q] at q'; cases q'
      obtain ⟨v, hv⟩ := heo
      exact ⟨v, by rw [hbe]; exact hv⟩
    · refine (ok b u q).stay (fun c v hc r => k c v ?_ r) (fun c r => by rw [upd_ne (nown c b r)]; exact r) fun c xs r => by rw [upd_ne (ntup c xs r)]; exact r
      rcases hc with rfl | hc
      · exact hbe
      · rintro rfl
        rcases he with z | z
        · exact nown c b hc z
        · rw [hc] at z; cases z; exact hb rfl
end

/-! ### kept unless tracked; of the frames at fs (the callers') the slots may change (an exception that passes writes there); of the records at ex (iterators) nothing is said -/
structure Un (fs ex : List Addr) (H H' : Hp) (h h' : Heap) : Prop where
  keep : ∀ b o, h.get? b = some o → H b = none → b ∉ fs → b ∉ ex → h'.get? b = some o
  slot : ∀ b o, h.get? b = some o → H b = none → b ∈ fs → b ∉ ex → ∃ sl, h'.get? b = some { o with slots := sl }
  free : ∀ b o, h.get? b = some o → H b = none → b ∉ ex → H' b = none
  there : ∀ b o, h.get? b = some o → b ∉ ex → ∃ o', h'.get? b = some o'
  tups : ∀ b xs, H b = some (.tup xs) → H' b = some (.tup xs)
  frzs : ∀ b o u, H b = some (.frz o u) → H' b = some (.frz o u)
  tbls : ∀ b ps, H b = some (.tbl ps) → ∃ more, H' b = some (.tbl (ps ++ more))
section
variable {fs fs' ex ex' : List Addr} {H H1 H2 : Hp} {h h1 h2 h' : Heap} {a x e : Addr} {o : HO}
theorem Un.any (u : Un fs ex H H1 h h1) {b : Addr} {ob : Obj} (q : h.get? b = some ob) (n : H b = none) (hx : b ∉ ex) : ∃ sl, h1.get? b = some { ob with slots := sl } := by
  by_cases hb : b ∈ fs
  · exact u.slot b ob q n hb hx
  · exact ⟨ob.slots, u.keep b ob q n hb hx⟩
theorem Un.kept (k : ∀ b u, h.get? b = some u → h'.get? b = some u) : Un fs ex H H h h' :=
  ⟨fun b ob q _ _ _ => k b ob q, fun b ob q _ _ _ => ⟨ob.slots, k b ob q⟩, fun _ _ _ n _ => n, fun b ob q _ => ⟨ob, k b ob q⟩, fun _ _ q => q, fun _ _ _ q => q, fun _ ps q => ⟨#[], by rw [q]; simp⟩⟩
theorem Un.refl : Un fs ex H H h h := Un.kept fun _ _ q => q
theorem Un.laid (k : ∀ b u, h.get? b = some u → h'.get? b = some u) (hp : h.objs.size ≤ a) (hn : H a = none) : Un fs ex H (upd H a o) h h' where
  keep := fun b u q _ _ _ => k b u q
  slot := fun b u q _ _ _ => ⟨u.slots, k b u q⟩
  free := fun b u q n _ => by rw [upd_ne (Nat.ne_of_lt (Nat.lt_of_lt_of_le (Heap.lt_size q) hp))]; exact n
  there := fun b u q _ => ⟨u, k b u q⟩
  tups := fun b xs q => by rw [upd_ne (ne_of_none q hn)]; exact q
  frzs := fun b u xs q => by rw [upd_ne (ne_of_none q hn)]; exact q
  tbls := fun b ps q => ⟨#[], by rw [upd_ne (ne_of_none q hn), q]; simp⟩
theorem Un.write (mu : Mut (H x)) (he : e = x ∨ H e = some (.own x)) (k : ∀ b u, b ≠ e → h.get? b = some u → h'.get? b = some u) (heo : ∃ u, h'.get? e = some u) : Un fs ex H (upd H x o) h h' := by
  have hx : ∀ b, H b = none → b ≠ x := fun b n z => by subst z; rw [n] at mu; exact mu
  have hb : ∀ b, H b = none → b ≠ e := fun b n z => by
    subst z
    rcases he with r | r
    · exact hx b n r
    · rw [n] at r; cases r
  have hm : ∀ b u, H b = some u → ¬ Mut (some u) → b ≠ x := fun b u q nm z => by subst z; rw [q] at mu; exact nm mu
  refine ⟨fun b u q n _ _ => k b u (hb b n) q, fun b u q n _ _ => ⟨u.slots, k b u (hb b n) q⟩, fun b u q n _ => by rw [upd_ne (hx b n)]; exact n, fun b u q _ => ?_,
    fun b xs q => by rw [upd_ne (hm b _ q fun z => z)]; exact q, fun b u xs q => by rw [upd_ne (hm b _ q fun z => z)]; exact q, fun b ps q => ⟨#[], by rw [upd_ne (hm b _ q fun z => z), q]; simp⟩⟩
  by_cases hbe : b = e
  · subst hbe; exact heo
  · exact ⟨u, k b u hbe q⟩
end

/-! ### the heap without what is tracked -/
def trk (h : Heap) (H : Hp) : List Addr := (List.range h.objs.size).filter fun a => (H a).isSome
def hidT (h : Heap) (H : Hp) : Heap := PySem.W.hideAll h (trk h H)
theorem hidT_size (h : Heap) (H : Hp) : (hidT h H).objs.size = h.objs.size := PySem.W.hideAll_size _ _
theorem hidT_get {h : Heap} {H : Hp} {b : Addr} {o : Obj} (e : h.get? b = some o) (n : H b = none) : (hidT h H).get? b = some o :=
  PySem.W.hideAll_get _ e fun hm => by
    have q : (H b).isSome = true := (List.mem_filter.mp hm).2
    rw [n] at q; simp at q
theorem of_hidT {h : Heap} {H : Hp} {b : Addr} {o : Obj} (e : (hidT h H).get? b = some o) : h.get? b = some o ∧ H b = none := by
  have e' : h.get? b = some o := PySem.W.of_hideAll (trk h H) e
  refine ⟨e', ?_⟩
  cases q : H b with
  | none => rfl
  | some x =>
    have hm : b ∈ trk h H := List.mem_filter.mpr ⟨List.mem_range.mpr (Heap.lt_size e'), by simp [q]⟩
    have z : (hidT h H).get? b = none := PySem.W.hideAll_none (trk h H) hm
    rw [z] at e; cases e

/-! ### OpenK's ledger, filled with every new object but one -/
end L2

namespace L2
open PySem PySem.Spec PyProof.Rows

/-- the module's facts, over the base: the heap at the law's entry without what is tracked there -/
structure Mod (K : PySem.W.Frag) (mg : Str → Option Value) (base : Heap) : Prop where
  kin : K.In base
  glob : base.Ns mainGlobals mg
  blt : ∃ mb, base.Ns builtinsNs mb ∧ ∀ x : Str, x ≠ "__name__" → mb x = bootBuiltins x
  nolimit : base.NoLimit

/-- the context: a def's body (or a comprehension's block) running. base: fixed through the whole law; s₀, H₀: the entry; outer: the frames whose slots others may change (a def's callers); stack: all frames that run;
   ex: iterators that were made ahead of the entry and are walked here (a comprehension's); fn: the names whose cells were made at the entry (a def: all; a comprehension's block: its own); calm: not within an except suite; pn: pins that every state bears; xe: what is wanted of an exception that leaves the code -/
structure Cx where
  prog : Program
  w : World
  K : PySem.W.Frag
  mg : Str → Option Value
  base : Heap
  A : Around
  N : List Str
  s₀ : Shared
  H₀ : Hp
  env : Env
  outer : List Env
  stack : List Env
  ex : List Addr
  fn : Str → Bool
  calm : Bool
  pn : List (Addr × Obj)
  xe : Value → Shared → Prop
/-- the callers' frames -/
def frs (l : List Env) : List Addr := l.filterMap (·.frame)
abbrev Cx.fs (X : Cx) : List Addr := frs X.outer

def Vis (sc : Scope) (x : Str) : Prop := sc.names.lookup x = some .local ∨ sc.names.lookup x = some .cell ∨ sc.names.lookup x = some .free
def Loc (sc : Scope) (x : Str) : Prop := sc.names.lookup x = some .local ∨ sc.names.lookup x = some .cell
def Look (env : Env) (h : Heap) (m : Str → Option Value) (x : Str) (u : Value) : Prop :=
  (env.kindOf x = some .local ∧ m x = some u) ∨ ((env.kindOf x = some .cell ∨ env.kindOf x = some .free) ∧ ∃ c, env.cells.lookup x = some c ∧ h.IsCell c (some u))

structure Cx.Ok (X : Cx) : Prop where
  mod : Mod X.K X.mg X.base
  kind : X.env.scope.kind = .function
  glob : X.env.globals = mainGlobals
  blt : X.env.builtins = builtinsNs
  above : X.s₀.heap.objs.size ≤ X.env.locals
  inj : ∀ x y c, X.env.cells.lookup x = some c → X.env.cells.lookup y = some c → x = y
  has : ∀ x, (X.env.kindOf x = some .cell ∨ X.env.kindOf x = some .free) → ∃ c, X.env.cells.lookup x = some c
  cab : ∀ x c, X.fn x = true → X.env.cells.lookup x = some c → X.s₀.heap.objs.size ≤ c
  hd : X.calm = true → X.A.handled = none
  frames : X.A.frames = some X.stack
  stk : X.stack = X.outer ∨ (X.stack = X.env :: X.outer ∧ X.env.frame = some X.env.locals)
  exf : ∀ b ∈ X.ex, b ≠ X.env.locals ∧ ∀ x c, X.env.cells.lookup x = some c → c ≠ b
  bs : ∀ b o, X.base.get? b = some o → X.s₀.heap.get? b = some o ∧ X.H₀ b = none
  bsz : X.base.objs.size ≤ X.s₀.heap.objs.size
  noex : ∀ b o, X.base.get? b = some o → b ∉ X.ex
  exfs : ∀ b ∈ X.ex, b ∉ X.fs
  funs : X.s₀.heap.FunFrames X.base X.outer
  frf : ∀ b ∈ X.fs, X.H₀ b = none

structure Inv (X : Cx) (pins : List (Addr × Obj)) (σ : List (Option V)) (H : Hp) (s : Shared) : Prop where
  ok : X.Ok
  os : s.os = X.s₀.os
  bare : AllBare s.gens
  base : Un X.fs X.ex X.H₀ H X.s₀.heap s.heap
  loc : ∃ m, s.heap.Ns X.env.locals m ∧ ∀ (i : Nat) (x : Str) (v : V), X.N[i]? = some x → σ[i]? = some (some v) → Vis X.env.scope x → ∃ u, RelV v u ∧ Look X.env s.heap m x u
  cell : ∀ x c, X.env.cells.lookup x = some c → ∃ v, s.heap.IsCell c v
  free : H X.env.locals = none
  freeC : ∀ x c, X.env.cells.lookup x = some c → H c = none
  pin : ∀ p ∈ X.pn ++ pins, s.heap.get? p.1 = some p.2 ∧ H p.1 = none ∧ p.1 ≠ X.env.locals ∧ p.1 ∉ X.fs ∧ ∀ v, p.2.data ≠ .cell v
  hok : HOk X.prog X.w H s.heap
  len : σ.length = X.N.length

section
variable {X : Cx} {pins : List (Addr × Obj)} {σ : List (Option V)} {H H' : Hp} {s : Shared} {h' : Heap}

theorem Cx.Ok.nofr (ok : X.Ok) {b : Addr} {o : Obj} (e : X.base.get? b = some o) : b ∉ X.fs := fun hb => by
  have := (ok.funs.mem hb).1
  rw [e] at this; cases this
theorem Inv.bs (I : Inv X pins σ H s) : ∀ b o, X.base.get? b = some o → s.heap.get? b = some o ∧ H b = none := fun b o e =>
  ⟨I.base.keep b o (I.ok.bs b o e).1 (I.ok.bs b o e).2 (I.ok.nofr e) (I.ok.noex b o e), I.base.free b o (I.ok.bs b o e).1 (I.ok.bs b o e).2 (I.ok.noex b o e)⟩
theorem Inv.bk (I : Inv X pins σ H s) : ∀ b o, X.base.get? b = some o → s.heap.get? b = some o := fun b o e => (I.bs b o e).1
theorem Inv.mod (I : Inv X pins σ H s) : Mod X.K X.mg X.base := I.ok.mod
theorem Inv.kIn (I : Inv X pins σ H s) : X.K.In s.heap := I.ok.mod.kin.keeps I.bk
theorem Inv.lt (I : Inv X pins σ H s) : X.env.locals < s.heap.objs.size := let ⟨_, hn, _⟩ := I.loc; hn.lt
theorem Inv.sz (I : Inv X pins σ H s) : X.s₀.heap.objs.size ≤ s.heap.objs.size := Nat.le_trans I.ok.above (Nat.le_of_lt I.lt)
theorem Inv.nofs (I : Inv X pins σ H s) {a : Addr} (h : s.heap.objs.size ≤ a) : a ∉ X.fs := fun hb => by
  obtain ⟨_, o, ho, _⟩ := I.ok.funs.mem hb
  exact absurd (Nat.lt_of_lt_of_le (Heap.lt_size ho) (Nat.le_trans I.sz h)) (Nat.lt_irrefl _)
theorem Inv.cne (I : Inv X pins σ H s) : ∀ x c, X.env.cells.lookup x = some c → c ≠ X.env.locals := fun x c e z => by
  obtain ⟨v, o, ho, hd⟩ := I.cell x c e
  obtain ⟨m, ⟨o', es, ep, ho', hd', _⟩, _⟩ := I.loc
  rw [z, ho'] at ho; cases ho; rw [hd'] at hd; cases hd
theorem Inv.funs (I : Inv X pins σ H s) : s.heap.FunFrames X.base X.outer := by
  have all : ∀ (l : List Env), (∀ b ∈ frs l, b ∈ X.fs) → X.s₀.heap.FunFrames X.base l → s.heap.FunFrames X.base l := by
    intro l
    induction l with
    | nil => intro _ _; trivial
    | cons env r ih =>
      intro hs hl
      obtain ⟨hk, ⟨L, o, hf, hn, ho, hd⟩, hr⟩ := hl
      have hL : L ∈ X.fs := hs L (by unfold frs; rw [List.filterMap_cons, hf]; exact List.mem_cons_self)
      obtain ⟨sl, e⟩ := I.base.slot L o ho (I.ok.frf L hL) hL fun z => I.ok.exfs L z hL
      exact ⟨hk, ⟨L, _, hf, hn, e, hd⟩, ih (fun b hb => hs b (by unfold frs; rw [List.filterMap_cons, hf]; exact List.mem_cons_of_mem _ hb)) hr⟩
  exact all X.outer (fun _ hb => hb) I.ok.funs

/-- the frames that run, for a call -/
theorem Inv.stack (I : Inv X pins σ H s) : s.heap.FunFrames X.base X.stack := by
  rcases I.ok.stk with e | ⟨e, hf⟩
  · rw [e]; exact I.funs
  · rw [e]
    obtain ⟨m, hn, _⟩ := I.loc
    refine .cons (by rw [I.ok.kind]; decide) hf hn ?_ I.funs
    exact Heap.get?_none_of_le (Nat.le_trans I.ok.bsz I.ok.above)
theorem Inv.stkSub (I : Inv X pins σ H s) : ∀ b ∈ frs X.stack, b ∈ X.env.locals :: X.fs := fun b hb => by
  rcases I.ok.stk with e | ⟨e, hf⟩
  · rw [e] at hb; exact List.mem_cons_of_mem _ hb
  · rw [e] at hb
    unfold frs at hb
    rw [List.filterMap_cons, hf] at hb
    exact hb
theorem Inv.stkFree (I : Inv X pins σ H s) : ∀ b ∈ frs X.stack, H b = none := fun b hb => by
  rcases List.mem_cons.mp (I.stkSub b hb) with e | hb
  · rw [e]; exact I.free
  · obtain ⟨_, o, ho, _⟩ := I.ok.funs.mem hb
    exact I.base.free b o ho (I.ok.frf b hb) fun z => I.ok.exfs b z hb

/-- THE STEP: the untracked objects but the frame and the records at ch are kept (the callers' frames up to slots), the frame's map is kept, the new abstract heap is held -/
theorem Inv.step {g' : Array GenState} {t' : Nat} {d' : Drawn} {ch : List Addr} (I : Inv X pins σ H s)
    (hch : ∀ b ∈ ch, (b ∈ X.ex ∨ X.s₀.heap.objs.size ≤ b) ∧ b ≠ X.env.locals ∧ (∀ x c, X.env.cells.lookup x = some c → c ≠ b) ∧ ∀ p ∈ X.pn ++ pins, p.1 ≠ b)
    (keep : ∀ b o, b ≠ X.env.locals → b ∉ X.fs → b ∉ ch → s.heap.get? b = some o → H b = none → h'.get? b = some o)
    (slot : ∀ b o, b ≠ X.env.locals → b ∈ X.fs → b ∉ ch → s.heap.get? b = some o → H b = none → ∃ sl, h'.get? b = some { o with slots := sl }) (free : ∀ b o, b ∉ ch → s.heap.get? b = some o → H b = none → H' b = none)
    (there : ∀ b o, b ∉ ch → s.heap.get? b = some o → ∃ o', h'.get? b = some o')
    (tups : ∀ b xs, H b = some (.tup xs) → H' b = some (.tup xs)) (frzs : ∀ b o u, H b = some (.frz o u) → H' b = some (.frz o u)) (tbls : ∀ b ps, H b = some (.tbl ps) → ∃ more, H' b = some (.tbl (ps ++ more)))
    (ns : ∀ m, s.heap.Ns X.env.locals m → h'.Ns X.env.locals m) (hok : HOk X.prog X.w H' h') (hg : AllBare g') :
    Inv X pins σ H' { s with heap := h', gens := g', drawn := d', toks := t' } := by
  have neL : ∀ b o, X.s₀.heap.get? b = some o → b ≠ X.env.locals := fun b o e => Nat.ne_of_lt (Nat.lt_of_lt_of_le (Heap.lt_size e) I.ok.above)
  have neC : ∀ b o, X.s₀.heap.get? b = some o → b ∉ X.ex → b ∉ ch := fun b o e hx hb => by
    rcases (hch b hb).1 with z | z
    · exact hx z
    · exact absurd (Nat.lt_of_lt_of_le (Heap.lt_size e) z) (Nat.lt_irrefl _)
  have cellK : ∀ x c, X.env.cells.lookup x = some c → ∀ v, s.heap.IsCell c v → h'.IsCell c v := fun x c e v ⟨o, ho, hd⟩ => by
    have nch : c ∉ ch := fun z => (hch c z).2.2.1 x c e rfl
    by_cases hc : c ∈ X.fs
    · obtain ⟨sl, q⟩ := slot c o (I.cne x c e) hc nch ho (I.freeC x c e)
      exact ⟨_, q, hd⟩
    · exact ⟨o, keep c o (I.cne x c e) hc nch ho (I.freeC x c e), hd⟩
  refine ⟨I.ok, I.os, hg, ⟨fun b o e n hb hx => ?_, fun b o e n hb hx => ?_, fun b o e n hx => ?_, fun b o e hx => ?_, fun b xs e => tups b xs (I.base.tups b xs e), fun b o xs e => frzs b o xs (I.base.frzs b o xs e), fun b ps e => ?_⟩, ?_, fun x c e => ?_, ?_, fun x c e => ?_, fun p hp => ?_, hok, I.len⟩
  · exact keep b o (neL b o e) hb (neC b o e hx) (I.base.keep b o e n hb hx) (I.base.free b o e n hx)
  · obtain ⟨sl, e1⟩ := I.base.slot b o e n hb hx
    obtain ⟨sl', e2⟩ := slot b _ (neL b o e) hb (neC b o e hx) e1 (I.base.free b o e n hx)
    exact ⟨sl', e2⟩
  · obtain ⟨o', e1⟩ := I.base.there b o e hx
    exact free b o' (neC b o e hx) e1 (I.base.free b o e n hx)
  · obtain ⟨o', e1⟩ := I.base.there b o e hx
    exact there b o' (neC b o e hx) e1
  · obtain ⟨m1, e1⟩ := I.base.tbls b ps e
    obtain ⟨m2, e2⟩ := tbls b _ e1
    exact ⟨m1 ++ m2, by rw [e2, Array.append_assoc]⟩
  · obtain ⟨m, hn, hl⟩ := I.loc
    refine ⟨m, ns m hn, fun i x v e1 e2 e3 => ?_⟩
    obtain ⟨u, r, l⟩ := hl i x v e1 e2 e3
    refine ⟨u, r, ?_⟩
    rcases l with l | ⟨k, c, e, z⟩
    · exact .inl l
    · exact .inr ⟨k, c, e, cellK x c e _ z⟩
  · obtain ⟨v, z⟩ := I.cell x c e
    exact ⟨v, cellK x c e v z⟩
  · obtain ⟨m, ⟨o, _, _, ho, _⟩, _⟩ := I.loc
    exact free _ o (fun z => (hch _ z).2.1 rfl) ho I.free
  · obtain ⟨v, o, ho, hd⟩ := I.cell x c e
    exact free c o (fun z => (hch c z).2.2.1 x c e rfl) ho (I.freeC x c e)
  · obtain ⟨e, n, ne, nf, d⟩ := I.pin p hp
    have nch : p.1 ∉ ch := fun z => (hch p.1 z).2.2.2 p hp rfl
    exact ⟨keep p.1 p.2 ne nf nch e n, free p.1 p.2 nch e n, ne, nf, d⟩
/-- .. where the frame's own object is kept too -/
theorem Inv.un {t' : Nat} (I : Inv X pins σ H s) (u : Un X.fs [] H H' s.heap h') (hok : HOk X.prog X.w H' h') : Inv X pins σ H' { s with heap := h', toks := t' } := by
  obtain ⟨m, ⟨o, es, ep, ho, r⟩, _⟩ := id I.loc
  obtain ⟨sl, hL⟩ := u.any ho I.free (by simp)
  exact I.step (g' := s.gens) (d' := s.drawn) (ch := []) (fun _ z => nomatch z) (fun b o _ hb _ e n => u.keep b o e n hb (by simp)) (fun b o _ hb _ e n => u.slot b o e n hb (by simp)) (fun b o _ e n => u.free b o e n (by simp)) (fun b o _ e => u.there b o e (by simp)) u.tups u.frzs u.tbls (fun m' hm => by
    obtain ⟨o', es', ep', ho', r'⟩ := hm
    rw [ho] at ho'; cases ho'
    exact ⟨_, es', ep', hL, r'⟩) hok I.bare
/-- behind a call (or a comprehension's block): the slots of this frame may have changed too, the records at ch may have turned -/
theorem Inv.call {g' : Array GenState} {t' : Nat} {d' : Drawn} {ch : List Addr} (I : Inv X pins σ H s) (u : Un (frs X.stack) ch H H' s.heap h') (hok : HOk X.prog X.w H' h') (hg : AllBare g')
    (hch : ∀ b ∈ ch, (b ∈ X.ex ∨ X.s₀.heap.objs.size ≤ b) ∧ b ≠ X.env.locals ∧ (∀ x c, X.env.cells.lookup x = some c → c ≠ b) ∧ ∀ p ∈ X.pn ++ pins, p.1 ≠ b) :
    Inv X pins σ H' { s with heap := h', gens := g', drawn := d', toks := t' } := by
  obtain ⟨m, ⟨o, es, ep, ho, r⟩, _⟩ := id I.loc
  obtain ⟨sl, hL⟩ := u.any ho I.free fun z => (hch _ z).2.1 rfl
  exact I.step (ch := ch) hch (fun b o hL hb hc e n => u.keep b o e n (fun z => (List.mem_cons.mp (I.stkSub b z)).elim hL hb) hc) (fun b o _ _ hc e n => u.any e n hc) (fun b o hc e n => u.free b o e n hc) (fun b o hc e => u.there b o e hc) u.tups u.frzs u.tbls (fun m' hm => by
    obtain ⟨o', es', ep', ho', r'⟩ := hm
    rw [ho] at ho'; cases ho'
    exact ⟨_, es', ep', hL, r'⟩) hok hg
/-- an untracked record of ours (an iterator) has turned -/
theorem Inv.turned {t' : Nat} {it : Addr} (I : Inv X pins σ H s) (k : ∀ b o, b ≠ it → s.heap.get? b = some o → h'.get? b = some o) (hn : H it = none) (hL : it ≠ X.env.locals)
    (h1 : it ∈ X.ex ∨ X.s₀.heap.objs.size ≤ it) (h2 : ∀ x c, X.env.cells.lookup x = some c → c ≠ it) (h3 : ∀ p ∈ X.pn ++ pins, p.1 ≠ it) : Inv X pins σ H { s with heap := h', toks := t' } := by
  have nit : ∀ b u, H b = some u → b ≠ it := fun b u e z => by rw [z, hn] at e; cases e
  refine I.step (g' := s.gens) (d' := s.drawn) (ch := [it]) (fun b hb => ?_) (fun b o _ _ hc e _ => k b o (fun z => hc (by simp [z])) e) (fun b o _ _ hc e _ => ⟨o.slots, k b o (fun z => hc (by simp [z])) e⟩) (fun _ _ _ _ n => n)
    (fun b o hc e => ⟨o, k b o (fun z => hc (by simp [z])) e⟩) (fun _ _ e => e) (fun _ _ _ e => e) (fun b ps e => ⟨#[], by rw [e]; simp⟩) (fun m hm => ?_) (fun b u e => ?_) I.bare
  · have e : b = it := by simpa using hb
    subst e
    exact ⟨h1, hL, h2, h3⟩
  · obtain ⟨o, es, ep, ho, r⟩ := hm
    exact ⟨o, es, ep, k _ o (Ne.symm hL) ho, r⟩
  · refine (I.hok b u e).stay (fun c v hc q => k c v ?_ q) (fun _ q => q) fun _ _ q => q
    rcases hc with z | z
    · rw [z]; exact nit b u e
    · exact nit c _ z
theorem Inv.tok (I : Inv X pins σ H s) (t : Nat) : Inv X pins σ H { s with toks := t } := I.un (h' := s.heap) (t' := t) Un.refl I.hok
/-- all objects kept -/
theorem Inv.kept {t' : Nat} (I : Inv X pins σ H s) (k : ∀ b u, s.heap.get? b = some u → h'.get? b = some u) : Inv X pins σ H { s with heap := h', toks := t' } := I.un (Un.kept k) (I.hok.kept k)
/-- a new object laid and tracked -/
theorem Inv.laid {a : Addr} {o : HO} {t' : Nat} (I : Inv X pins σ H s) (k : ∀ b u, s.heap.get? b = some u → h'.get? b = some u) (hp : s.heap.objs.size ≤ a) (new : ObjOk X.prog X.w (upd H a o) h' a o) :
    Inv X pins σ (upd H a o) { s with heap := h', toks := t' } := I.un (Un.laid k hp (I.hok.fresh hp)) (I.hok.laid k hp new)
/-- an object written -/
theorem Inv.write {x e : Addr} {o : HO} {t' : Nat} (I : Inv X pins σ H s) (mu : Mut (H x)) (he : e = x ∨ H e = some (.own x)) (k : ∀ b u, b ≠ e → s.heap.get? b = some u → h'.get? b = some u) (heo : ∃ u, h'.get? e = some u)
    (new : ObjOk X.prog X.w (upd H x o) h' x o) : Inv X pins σ (upd H x o) { s with heap := h', toks := t' } := I.un (Un.write mu he k heo) (I.hok.write mu he k heo new)
/-- forgetting slots, pins -/
theorem Inv.weak {σ' : List (Option V)} (I : Inv X pins σ H s) (hl : σ'.length = σ.length) (w : ∀ (i : Nat) v, σ'[i]? = some (some v) → σ[i]? = some (some v)) : Inv X pins σ' H s :=
  ⟨I.ok, I.os, I.bare, I.base, let ⟨m, hn, hl'⟩ := I.loc; ⟨m, hn, fun i x v e1 e2 e3 => hl' i x v e1 (w i v e2) e3⟩, I.cell, I.free, I.freeC, I.pin, I.hok, hl.trans I.len⟩
theorem Inv.pins_of {pins' : List (Addr × Obj)} (I : Inv X pins σ H s) (h : ∀ p ∈ pins', s.heap.get? p.1 = some p.2 ∧ H p.1 = none ∧ p.1 ≠ X.env.locals ∧ p.1 ∉ X.fs ∧ ∀ v, p.2.data ≠ .cell v) : Inv X pins' σ H s :=
  ⟨I.ok, I.os, I.bare, I.base, I.loc, I.cell, I.free, I.freeC, fun p hp => (List.mem_append.mp hp).elim (fun z => I.pin p (List.mem_append_left _ z)) (h p), I.hok, I.len⟩

theorem nodup_ix {N : List Str} (hN : N.Nodup) {i j : Nat} {x : Str} (a : N[i]? = some x) (b : N[j]? = some x) : i = j := by
  obtain ⟨h1, e1⟩ := List.getElem?_eq_some_iff.mp a
  obtain ⟨h2, e2⟩ := List.getElem?_eq_some_iff.mp b
  exact (List.getElem_inj hN).mp (e1.trans e2.symm)

/-- a name is stored; what changed -/
theorem store_ok2 {M : Model} {A : Around} {E : Value → Shared → Prop} {i : Nat} {x : Str} {v : V} {u : Value} {Q : Unit → Shared → Prop} (I : Inv X pins σ H s) (hN : X.N.Nodup) (hi : X.N[i]? = some x) (hx : Loc X.env.scope x) (r : RelV v u)
    (h : ∀ s', Inv X pins (σ.set i (some v)) H s' → (∃ a, Heap.SameBut a s.heap s'.heap ∧ (a = X.env.locals ∨ X.env.cells.lookup x = some a)) → Q () s') (hf : X.fn x = true ∨ X.env.scope.names.lookup x = some .local := by first | exact .inl rfl | exact .inr rfl | assumption) : wpAny M A (storeName X.env x u) Q E s := by
  obtain ⟨m, hn, hl⟩ := id I.loc
  have hcls : (X.env.scope.kind == .class || (X.env.scope.kind == .module && X.env.locals != X.env.globals)) = false := by rw [I.ok.kind]; rfl
  have hiσ : i < σ.length := by rw [I.len]; exact (List.getElem?_eq_some_iff.mp hi).1
  have cne := I.cne
  have tracked : ∀ {a : Addr} {h' : Heap}, (∃ o, s.heap.get? a = some o ∧ H a = none) → Heap.SameBut a s.heap h' → HOk X.prog X.w H h' := fun {a h'} ha hs b ob e => by
    obtain ⟨_, _, hfree⟩ := ha
    refine (I.hok b ob e).stay (fun c w' hc q => (hs.2 c ?_).trans q) (fun _ q => q) fun _ _ q => q
    rintro rfl
    rcases hc with rfl | hc
    · rw [hfree] at e; cases e
    · rw [hfree] at hc; cases hc
  rcases hx with hk | hk
  · refine wpAny_storeName_local hk hn (fun h' hn' hs => ?_) hcls
    obtain ⟨oL, _, _, hoL, _⟩ := id hn
    refine h _ ⟨I.ok, I.os, I.bare, ⟨fun b o e n hb hx => ?_, fun b o e n hb hx => ?_, I.base.free, fun b o e hx => ?_, I.base.tups, I.base.frzs, I.base.tbls⟩, ⟨_, hn', fun j y v' e1 e2 e3 => ?_⟩, fun y c e => ?_, I.free, I.freeC, fun p hp => ?_, tracked ⟨oL, hoL, I.free⟩ hs, by simpa using I.len⟩ ⟨_, hs, .inl rfl⟩
    · exact (hs.2 b (Nat.ne_of_lt (Nat.lt_of_lt_of_le (Heap.lt_size e) I.ok.above))).trans (I.base.keep b o e n hb hx)
    · obtain ⟨sl, e1⟩ := I.base.slot b o e n hb hx
      exact ⟨sl, (hs.2 b (Nat.ne_of_lt (Nat.lt_of_lt_of_le (Heap.lt_size e) I.ok.above))).trans e1⟩
    · obtain ⟨o', e1⟩ := I.base.there b o e hx
      exact ⟨o', (hs.2 b (Nat.ne_of_lt (Nat.lt_of_lt_of_le (Heap.lt_size e) I.ok.above))).trans e1⟩
    · by_cases hj : j = i
      · subst hj
        rw [hi] at e1; cases e1
        rw [List.getElem?_set_self hiσ] at e2
        cases e2
        exact ⟨u, r, .inl ⟨hk, by simp⟩⟩
      · rw [List.getElem?_set_ne (Ne.symm hj)] at e2
        obtain ⟨u', r', q⟩ := hl j y v' e1 e2 e3
        refine ⟨u', r', ?_⟩
        rcases q with ⟨k, e⟩ | ⟨k, c, e, z⟩
        · refine .inl ⟨k, ?_⟩
          have : y ≠ x := fun e => hj (nodup_ix hN e1 (e ▸ hi))
          simp [this, e]
        · exact .inr ⟨k, c, e, z.sameBut hs (cne y c e)⟩
    · obtain ⟨w', z⟩ := I.cell y c e
      exact ⟨w', z.sameBut hs (cne y c e)⟩
    · obtain ⟨e, n, ne, nf, d⟩ := I.pin p hp
      exact ⟨(hs.2 p.1 ne).trans e, n, ne, nf, d⟩
  · have hfn : X.fn x = true := by
      rcases hf with z | z
      · exact z
      · rw [z] at hk; cases hk
    obtain ⟨c, hc⟩ := I.ok.has x (.inl hk)
    obtain ⟨w', z⟩ := I.cell x c hc
    refine wpAny_storeName_cell I.ok.kind hk hc z (fun h' hc' hs => ?_)
    obtain ⟨oc, hoc, hocd⟩ := id z
    refine h { s with heap := h' } ⟨I.ok, I.os, I.bare, ⟨fun b o e n hb hx => ?_, fun b o e n hb hx => ?_, I.base.free, fun b o e hx => ?_, I.base.tups, I.base.frzs, I.base.tbls⟩, ⟨m, hn.sameBut hs (Ne.symm (cne x c hc)), fun j y v' e1 e2 e3 => ?_⟩, fun y c' e => ?_, I.free, I.freeC, fun p hp => ?_, tracked ⟨oc, hoc, I.freeC x c hc⟩ hs, by simpa using I.len⟩ ⟨c, hs, .inr hc⟩
    · exact (hs.2 b (Nat.ne_of_lt (Nat.lt_of_lt_of_le (Heap.lt_size e) (I.ok.cab x c hfn hc)))).trans (I.base.keep b o e n hb hx)
    · obtain ⟨sl, e1⟩ := I.base.slot b o e n hb hx
      exact ⟨sl, (hs.2 b (Nat.ne_of_lt (Nat.lt_of_lt_of_le (Heap.lt_size e) (I.ok.cab x c hfn hc)))).trans e1⟩
    · obtain ⟨o', e1⟩ := I.base.there b o e hx
      exact ⟨o', (hs.2 b (Nat.ne_of_lt (Nat.lt_of_lt_of_le (Heap.lt_size e) (I.ok.cab x c hfn hc)))).trans e1⟩
    · by_cases hj : j = i
      · subst hj
        rw [hi] at e1; cases e1
        rw [List.getElem?_set_self hiσ] at e2
        cases e2
        exact ⟨u, r, .inr ⟨.inl hk, c, hc, hc'⟩⟩
      · rw [List.getElem?_set_ne (Ne.symm hj)] at e2
        obtain ⟨u', r', q⟩ := hl j y v' e1 e2 e3
        refine ⟨u', r', ?_⟩
        rcases q with q | ⟨k, c', e, z'⟩
        · exact .inl q
        · refine .inr ⟨k, c', e, z'.sameBut hs ?_⟩
          rintro rfl
          exact hj (nodup_ix hN e1 (I.ok.inj _ _ _ e hc ▸ hi))
    · by_cases hcc : c' = c
      · subst hcc; exact ⟨_, hc'⟩
      · obtain ⟨w2, z2⟩ := I.cell y c' e
        exact ⟨w2, z2.sameBut hs hcc⟩
    · obtain ⟨e, n, ne, nf, d⟩ := I.pin p hp
      refine ⟨(hs.2 p.1 ?_).trans e, n, ne, nf, d⟩
      intro q
      rw [q, hoc] at e
      have q' : oc = p.2 := Option.some.inj e
      exact d w' (by rw [← q']; exact hocd)
theorem store_ok {M : Model} {A : Around} {E : Value → Shared → Prop} {i : Nat} {x : Str} {v : V} {u : Value} {Q : Unit → Shared → Prop} (I : Inv X pins σ H s) (hN : X.N.Nodup) (hi : X.N[i]? = some x) (hx : Loc X.env.scope x) (r : RelV v u)
    (h : ∀ s', Inv X pins (σ.set i (some v)) H s' → Q () s') (hf : X.fn x = true ∨ X.env.scope.names.lookup x = some .local := by first | exact .inl rfl | exact .inr rfl | assumption) : wpAny M A (storeName X.env x u) Q E s :=
  store_ok2 I hN hi hx r (fun s' I' _ => h s' I') hf
/-- behind a call or a block, the state as it is -/
theorem Inv.call' {s' : Shared} {ch : List Addr} (I : Inv X pins σ H s) (ho : s'.os = s.os) (u : Un (frs X.stack) ch H H' s.heap s'.heap) (hok : HOk X.prog X.w H' s'.heap) (hg : AllBare s'.gens)
    (hch : ∀ b ∈ ch, (b ∈ X.ex ∨ X.s₀.heap.objs.size ≤ b) ∧ b ≠ X.env.locals ∧ (∀ x c, X.env.cells.lookup x = some c → c ≠ b) ∧ ∀ p ∈ X.pn ++ pins, p.1 ≠ b) : Inv X pins σ H' s' := by
  obtain ⟨h', g', d', t', o'⟩ := s'
  have e : o' = s.os := ho
  subst e
  exact I.call (g' := g') (t' := t') (d' := d') u hok hg hch
end

/-! ### the judgements -/
/-- an exception: its class, its own dict's address (where it has one), the abstract heap behind it -/
abbrev XK := Value → Option Addr → Hp → Prop
abbrev St := List (Option V)
abbrev VK := V → Hp → Prop
/-- an expression's reading; a test's; an argument list's -/
abbrev TE := St → Hp → VK → Prop
abbrev TT := St → Hp → (Bool → Hp → Prop) → Prop
abbrev TA := St → Hp → (List V → Hp → Prop) → Prop
/-- what is wanted behind a statement -/
structure Ends where
  nx : St → Hp → Prop
  rt : VK
  bk : St → Hp → Prop := fun _ _ => False
  ct : St → Hp → Prop := fun _ _ => False
abbrev TS := Ends → St → Hp → Prop

def EP (X : Cx) (pins : List (Addr × Obj)) (σ : St) (Q : VK) (u : Value) (s' : Shared) : Prop := ∃ v H', Inv X pins σ H' s' ∧ RelV v u ∧ Q v H'
def TP (X : Cx) (pins : List (Addr × Obj)) (σ : St) (Q : Bool → Hp → Prop) (b : Bool) (s' : Shared) : Prop := ∃ H', Inv X pins σ H' s' ∧ Q b H'
def AP (X : Cx) (pins : List (Addr × Obj)) (σ : St) (Q : List V → Hp → Prop) (us : List Value) (s' : Shared) : Prop := ∃ vs H', Inv X pins σ H' s' ∧ Vals vs us ∧ Q vs H'
def SP (X : Cx) (pins : List (Addr × Obj)) (D : Ends) (f : Flow) (s' : Shared) : Prop :=
  match f with
  | .next => ∃ σ' H', Inv X pins σ' H' s' ∧ D.nx σ' H'
  | .brk => ∃ σ' H', Inv X pins σ' H' s' ∧ D.bk σ' H'
  | .cont => ∃ σ' H', Inv X pins σ' H' s' ∧ D.ct σ' H'
  | .ret u => ∃ v σ' H', Inv X pins σ' H' s' ∧ RelV v u ∧ D.rt v H'

def PE (X : Cx) (e : Expr) (t : TE) : Prop :=
  ∀ (pins : List (Addr × Obj)) (s : Shared) (σ : St) (H : Hp) (Q : VK), Inv X pins σ H s → t σ H Q → wpAny (model X.prog X.w) X.A (eval e X.env) (EP X pins σ Q) X.xe s
def PT (X : Cx) (e : Expr) (t : TT) : Prop :=
  ∀ (pins : List (Addr × Obj)) (s : Shared) (σ : St) (H : Hp) (Q : Bool → Hp → Prop), Inv X pins σ H s → t σ H Q → wpAny (model X.prog X.w) X.A (isTrue e X.env (eval e X.env)) (TP X pins σ Q) X.xe s
/-- a test whatever its 'whole' is (and, or) -/
def PW (X : Cx) (e : Expr) (t : TT) : Prop :=
  ∀ (whole : Sem Value) (pins : List (Addr × Obj)) (s : Shared) (σ : St) (H : Hp) (Q : Bool → Hp → Prop), Inv X pins σ H s → t σ H Q → wpAny (model X.prog X.w) X.A (isTrue e X.env whole) (TP X pins σ Q) X.xe s
theorem PW.pt {X : Cx} {e : Expr} {t : TT} (h : PW X e t) : PT X e t := h _
/-- an argument list (no star), from the left -/
def PA (X : Cx) (es : List Expr) (t : TA) : Prop :=
  ∀ (pos : Pos) (pins : List (Addr × Obj)) (s : Shared) (σ : St) (H : Hp) (Q : List V → Hp → Prop), Inv X pins σ H s → t σ H Q → wpAny (model X.prog X.w) X.A (spliced (backTo pos (starEach es X.env))) (AP X pins σ Q) X.xe s
def PS (X : Cx) (st : Stmt) (t : TS) : Prop :=
  ∀ (pins : List (Addr × Obj)) (s : Shared) (σ : St) (H : Hp) (D : Ends), Inv X pins σ H s → t D σ H → wpAny (model X.prog X.w) X.A (exec st X.env) (SP X pins D) X.xe s
def PSs (X : Cx) (st : List Stmt) (t : TS) : Prop :=
  ∀ (pins : List (Addr × Obj)) (s : Shared) (σ : St) (H : Hp) (D : Ends), Inv X pins σ H s → t D σ H → wpAny (model X.prog X.w) X.A (execs st X.env) (SP X pins D) X.xe s
/-- weaken the end -/
theorem thn {α : Type} {t : Sem α} {Q Q' : α → Shared → Prop} {M : Model} {A : Around} {E : Value → Shared → Prop} {s : Shared} (h : wpAny M A t Q E s) (hQ : ∀ a s, Q a s → Q' a s) : wpAny M A t Q' E s := wpAny_mono h hQ fun _ _ x => x
end L2

namespace L2
open PySem PySem.Spec PyProof.Rows
section
variable {X : Cx}


/-! ### names and constants -/
def tVar (i : Nat) : TE := fun σ H Q => ∃ v, σ[i]? = some (some v) ∧ Q v H
def tC (v : V) : TE := fun _ H Q => Q v H
theorem pe_var {i : Nat} {x : Str} {pos : Pos} (hN : X.N[i]? = some x) (hv : Vis X.env.scope x) (hd : (x == ("__debug__" : Str)) = false := by decide) (hcd : (x == ("__classdict__" : Str)) = false := by decide) : PE X (.Name x pos) (tVar i) := by
  intro pins s σ H Q I h
  obtain ⟨v, e, h⟩ := h
  obtain ⟨m, hn, hl⟩ := I.loc
  obtain ⟨u, r, l⟩ := hl i x v hN e hv
  have fin : EP X pins σ Q u s := ⟨v, H, I, r, h⟩
  rcases l with ⟨hk, hm⟩ | ⟨hk, c, hc, hcell⟩
  · exact wpAny_Name (wpAny_loadName_local I.ok.kind hk hn hm fin) hd
  · rcases hk with hk | hk
    · exact wpAny_Name (wpAny_loadName_cell I.ok.kind hk hc hcell fin) hd
    · exact wpAny_Name (wpAny_loadName_free I.ok.kind hk hc hcell fin hcd) hd
theorem pe_int {i j pos} : PE X (.Constant (.int i) j pos) (tC (.int i)) := fun _ _ _ H _ I h => wpAny_Constant_int ⟨.int i, H, I.tok _, ⟨_, rfl⟩, h⟩
theorem pe_bl {b j pos} : PE X (.Constant (.bool b) j pos) (tC (.bl b)) := fun _ _ _ H _ I h => Constant_bool ⟨.bl b, H, I, rfl, h⟩
theorem pe_non {j pos} : PE X (.Constant .none j pos) (tC .non) := fun _ _ _ H _ I h => Constant_none ⟨.non, H, I, rfl, h⟩

/-- a global name of the def -/
def Gl (X : Cx) (x : Str) : Prop := X.env.kindOf x = some .globalImplicit
theorem ld_glob {E : Value → Shared → Prop} {pins : List (Addr × Obj)} {s : Shared} {σ : St} {H : Hp} {x : Str} {u : Value} {pos : Pos} {Q : Value → Shared → Prop} (I : Inv X pins σ H s) (hg : Gl X x) (hm : X.mg x = some u) (h : Q u s)
    (hd : (x == ("__debug__" : Str)) = false := by decide) : wpAny (model X.prog X.w) X.A (eval (.Name x pos) X.env) Q E s :=
  Calls.Name_function_global I.ok.kind hg (Calls.loadGlobal_global (by rw [I.ok.glob]; exact I.mod.glob.keeps I.bk) hm h) hd
theorem ld_blt {E : Value → Shared → Prop} {pins : List (Addr × Obj)} {s : Shared} {σ : St} {H : Hp} {x : Str} {u : Value} {pos : Pos} {Q : Value → Shared → Prop} (I : Inv X pins σ H s) (hg : Gl X x) (hm : X.mg x = none) (hv : bootBuiltins x = some u) (h : Q u s)
    (hn : x ≠ "__name__" := by decide) (hd : (x == ("__debug__" : Str)) = false := by decide) : wpAny (model X.prog X.w) X.A (eval (.Name x pos) X.env) Q E s := by
  obtain ⟨mb, h1, h2⟩ := I.mod.blt
  exact Calls.Name_function_global I.ok.kind hg (Calls.loadGlobal_builtin (by rw [I.ok.glob]; exact I.mod.glob.keeps I.bk) hm (by rw [I.ok.blt]; exact h1.keeps I.bk) ((h2 x hn).trans hv) h) hd
/-- a module's constant, a class, a function, as a value -/
theorem pe_glob {x : Str} {v : V} {u : Value} {pos : Pos} (hg : Gl X x) (hm : X.mg x = some u) (r : RelV v u) (hd : (x == ("__debug__" : Str)) = false := by decide) : PE X (.Name x pos) (tC v) :=
  fun _ _ _ H _ I h => ld_glob I hg hm ⟨v, H, I, r, h⟩ hd
theorem pe_bltn {x : Str} {v : V} {u : Value} {pos : Pos} (hg : Gl X x) (hm : X.mg x = none) (hv : bootBuiltins x = some u) (r : RelV v u) (hn : x ≠ "__name__" := by decide) (hd : (x == ("__debug__" : Str)) = false := by decide) : PE X (.Name x pos) (tC v) :=
  fun _ _ _ H _ I h => ld_blt I hg hm hv ⟨v, H, I, r, h⟩ hn hd

/-! ### arithmetic -/
variable {a b : Expr} {ta tb : TE} {pos : Pos}

/-! ### comparisons -/
def PC (X : Cx) (op : CmpOp) (a b : Expr) (t : TE) : Prop :=
  ∀ (pins : List (Addr × Obj)) (s : Shared) (σ : St) (H : Hp) (Q : VK), Inv X pins σ H s → t σ H Q →
    wpAny (model X.prog X.w) X.A (eval a X.env) (fun v s₁ => wpAny (model X.prog X.w) X.A (eval b X.env) (fun u s₂ => wpAny (model X.prog X.w) X.A (compareOp op v u) (EP X pins σ Q) X.xe s₂) X.xe s₁) X.xe s
theorem nobehind (b : Expr) {op : CmpOp} (h : op ≠ .In) (h2 : op ≠ .NotIn) : behindInMarks op b = false := by
  have e1 : (op == CmpOp.In) = false := by cases op <;> first | rfl | exact absurd rfl h
  have e2 : (op == CmpOp.NotIn) = false := by cases op <;> first | rfl | exact absurd rfl h2
  cases b <;> simp [behindInMarks, e1, e2]
/-- is None -/
def tIsN (ta : TE) : TE := fun σ H Q => ta σ H fun x H1 => Q (.bl (decide (x = .non))) H1
def tNotN (ta : TE) : TE := fun σ H Q => ta σ H fun x H1 => Q (.bl (!decide (x = .non))) H1
theorem RelV.none_iff {x : V} {v : Value} (r : RelV x v) : (v == Value.none) = decide (x = .non) := by
  cases x with
  | non => cases r; rfl
  | bl _ => cases r; rfl
  | int _ => obtain ⟨t, rfl⟩ := r; rfl
  | str _ => obtain ⟨t, rfl⟩ := r; rfl
  | byt _ => obtain ⟨t, rfl⟩ := r; rfl
  | flt _ => obtain ⟨t, rfl⟩ := r; rfl
  | ref _ => cases r; rfl
  | ty _ => cases r; rfl
theorem pc_isN {j pos'} (ha : PE X a ta) : PC X .Is a (.Constant .none j pos') (tIsN ta) := by
  intro pins s σ H Q I h
  refine thn (ha pins s σ H _ I h) fun v s1 ⟨x, H1, I1, r1, q1⟩ => ?_
  exact Constant_none (is_none_gen ⟨.bl _, H1, I1, by rw [r1.none_iff]; rfl, q1⟩)
theorem pc_notN {j pos'} (ha : PE X a ta) : PC X .IsNot a (.Constant .none j pos') (tNotN ta) := by
  intro pins s σ H Q I h
  refine thn (ha pins s σ H _ I h) fun v s1 ⟨x, H1, I1, r1, q1⟩ => ?_
  exact Constant_none (isnot_none_gen ⟨.bl _, H1, I1, by rw [r1.none_iff]; rfl, q1⟩)
/-- a comparison as a value, as a test -/
def tB (t : TE) : TT := fun σ H Q => t σ H fun x H1 => ∃ c, x = .bl c ∧ Q c H1
theorem pt_cmp {op : CmpOp} {t : TE} (h : PC X op a b t) (h1 : behindInMarks op b = false := by first | exact nobehind _ (by decide) (by decide) | rfl) : PT X (.Compare a [op] [b] pos) (tB t) := by
  intro pins s σ H Q I hw
  refine wpAny_isTrue_Compare1 (thn (h pins s σ H _ I hw) fun v s1 h1 => thn h1 fun u s2 h2 => thn h2 fun c s3 ⟨x, H1, I1, r1, q1⟩ => ?_) h1
  obtain ⟨d, rfl, q⟩ := q1
  cases r1
  exact wpAny_truthy_bool ⟨H1, I1, q⟩
/-- an expression whose value is a bool, as a test -/
theorem pt_val {e : Expr} {t : TE} (h : PE X e t) (he : ∀ whole, isTrue e X.env whole = (do let v ← whole; standAt e.pos; holding [v] (truthy v)) := by intro _; rfl) : PT X e (tB t) := by
  intro pins s σ H Q I hw
  refine isTrue_plain (thn (h pins s σ H _ I hw) fun v s1 ⟨x, H1, I1, r1, q1⟩ => ?_) (he _)
  obtain ⟨d, rfl, q⟩ := q1
  cases r1
  exact wpAny_truthy_bool ⟨H1, I1, q⟩

/-! ### and, or, not -/
variable {tA tB' : TT} {rest : List Expr}
def tAnd (t u : TT) : TT := fun σ H Q => t σ H fun c H1 => if c = true then u σ H1 Q else Q false H1
def tNot (t : TT) : TT := fun σ H Q => t σ H fun c H1 => Q (!c) H1
theorem pw_and1 (ha : PT X a tA) : PW X (.BoolOp .And [a] pos) tA := by
  intro wh pins s σ H Q I h
  refine isTrue_and (thn (ha pins s σ H Q I h) fun c s1 e => ?_)
  cases c with
  | true => exact isTrue_and_nil e
  | false => exact e
theorem pw_and (ha : PT X a tA) (hb : PW X (.BoolOp .And (b :: rest) pos) tB') : PW X (.BoolOp .And (a :: b :: rest) pos) (tAnd tA tB') := by
  intro wh pins s σ H Q I h
  refine isTrue_and (thn (ha pins s σ H _ I h) fun c s1 ⟨H1, I1, q1⟩ => ?_)
  cases c with
  | true => exact hb wh pins s1 σ H1 Q I1 q1
  | false => exact ⟨H1, I1, q1⟩
theorem pt_not (ha : PT X a tA) : PT X (.UnaryOp .Not a pos) (tNot tA) := by
  intro pins s σ H Q I h
  exact isTrue_not (ha pins s σ H (fun c H1 => Q (!c) H1) I h)
/-- .. as values (bools) -/
def tAndV (ta tb : TE) : TE := fun σ H Q => ta σ H fun x H1 => ∃ c, x = .bl c ∧ if c = true then tb σ H1 Q else Q (.bl false) H1
def tNotV (ta : TE) : TE := fun σ H Q => ta σ H fun x H1 => ∃ c, x = .bl c ∧ Q (.bl (!c)) H1
theorem pe_one {op} {t : TE} (h : PE X a t) : PE X (.BoolOp op [a] pos) t := fun pins s σ H Q I hw => BoolOp_one (h pins s σ H Q I hw)
theorem pe_and (ha : PE X a ta) (hb : PE X (.BoolOp .And (b :: rest) pos) tb) : PE X (.BoolOp .And (a :: b :: rest) pos) (tAndV ta tb) := by
  intro pins s σ H Q I h
  refine BoolOp_and (thn (ha pins s σ H _ I h) fun v s1 ⟨x, H1, I1, r1, q1⟩ => ?_)
  obtain ⟨c, rfl, q1⟩ := q1
  cases r1
  refine wpAny_truthy_bool ?_
  cases c with
  | true => exact hb pins s1 σ H1 Q I1 q1
  | false => exact ⟨.bl false, H1, I1, rfl, q1⟩
theorem pe_not (ha : PE X a ta) : PE X (.UnaryOp .Not a pos) (tNotV ta) := by
  intro pins s σ H Q I h
  refine UnaryOp_ (thn (ha pins s σ H _ I h) fun v s1 ⟨x, H1, I1, r1, q1⟩ => ?_)
  obtain ⟨c, rfl, q1⟩ := q1
  cases r1
  exact not_of (wpAny_truthy_bool ⟨.bl (!c), H1, I1, rfl, q1⟩)
/-- a if t else b -/
def tIf (t : TT) (ta tb : TE) : TE := fun σ H Q => t σ H fun c H1 => if c = true then ta σ H1 Q else tb σ H1 Q
theorem pe_ifExp {c : Expr} (hc : PT X c tA) (ha : PE X a ta) (hb : PE X b tb) : PE X (.IfExp c a b pos) (tIf tA ta tb) := by
  intro pins s σ H Q I h
  refine wpAny_IfExp (thn (hc pins s σ H _ I h) fun d s1 ⟨H1, I1, q1⟩ => ?_)
  cases d with
  | true => exact ha pins s1 σ H1 Q I1 q1
  | false => exact hb pins s1 σ H1 Q I1 q1
end
end L2

namespace L2
open PySem PySem.Spec PyProof.Rows

/-! ### a list, a tuple that is read: tracked, frozen, or an object of the module -/
def SqL (K : PySem.W.Frag) (H : Hp) (a : Addr) (xs : List V) : Prop :=
  Rd H a (.lst xs) ∨
    ∃ (o : Obj) (its : Array Value) (n : Nat), K.lookup a = some o ∧ o.cls = .type "list" ∧ o.dict = none ∧ o.data = .seq its n ∧ its.size ≤ sizeLine ∧ Vals xs its.toList
def SqT (K : PySem.W.Frag) (H : Hp) (a : Addr) (xs : List V) : Prop :=
  Rd H a (.tup xs) ∨
    ∃ (o : Obj) (its : Array Value) (n : Nat), K.lookup a = some o ∧ o.cls = .type "tuple" ∧ o.data = .seq its n ∧ its.size ≤ sizeLine ∧ Vals xs its.toList
def absV : Value → Option V
  | .none => some .non
  | .bool b => some (.bl b)
  | .int i _ => some (.int i)
  | .str x _ => some (.str x)
  | .bytes b _ => some (.byt b)
  | .float b _ => some (.flt b)
  | .ref a => some (.ref a)
  | .type n => some (.ty n)
  | _ => none
theorem RelV.abs {x : V} {u : Value} (r : RelV x u) : absV u = some x := by
  cases x with
  | non => cases r; rfl
  | bl _ => cases r; rfl
  | int _ => obtain ⟨t, rfl⟩ := r; rfl
  | str _ => obtain ⟨t, rfl⟩ := r; rfl
  | byt _ => obtain ⟨t, rfl⟩ := r; rfl
  | flt _ => obtain ⟨t, rfl⟩ := r; rfl
  | ref _ => cases r; rfl
  | ty _ => cases r; rfl
theorem RelV.inj {x y : V} {u : Value} (r : RelV x u) (q : RelV y u) : x = y := Option.some.inj (r.abs.symm.trans q.abs)
theorem Vals.inj : ∀ {xs ys : List V} {us : List Value}, Vals xs us → Vals ys us → xs = ys
  | _, _, _, .nil, .nil => rfl
  | _, _, _, .cons r t, .cons r' t' => by rw [r.inj r', Vals.inj t t']
section
variable {X : Cx} {pins : List (Addr × Obj)} {σ : St} {H : Hp} {s : Shared} {a : Addr} {xs ys : List V}
theorem SqL.of {K : PySem.W.Frag} (h : H a = some (.lst xs)) : SqL K H a xs := .inl (.inl h)
theorem SqT.of {K : PySem.W.Frag} (h : H a = some (.tup xs)) : SqT K H a xs := .inl (.inl h)
theorem Inv.list (I : Inv X pins σ H s) (h : SqL X.K H a xs) : ∃ its : List Value, Vals xs its ∧ PlainL s.heap a its.toArray ∧ xs.length ≤ sizeLine := by
  rcases h with h | ⟨o, its, n, hk, hc, hd, hs, hz, r⟩
  · obtain ⟨z, its, n, r, e⟩ := h.ok I.hok
    exact ⟨its, r, ⟨_, n, e, rfl, rfl, rfl⟩, z⟩
  · refine ⟨its.toList, r, ⟨o, n, I.kIn a o hk, hc, hd, by simpa using hs⟩, ?_⟩
    have e := r.length
    simp only [Array.length_toList] at e
    omega
theorem Inv.tuple (I : Inv X pins σ H s) (h : SqT X.K H a xs) : ∃ its : List Value, Vals xs its ∧ IsTup s.heap a its.toArray ∧ xs.length ≤ sizeLine := by
  rcases h with h | ⟨o, its, n, hk, hc, hs, hz, r⟩
  · obtain ⟨z, its, r, p⟩ := h.ok I.hok
    exact ⟨its, r, p, z⟩
  · refine ⟨its.toList, r, ⟨o, I.kIn a o hk, hc, n, by simpa using hs⟩, ?_⟩
    have e := r.length
    simp only [Array.length_toList] at e
    omega
theorem Inv.list_inj (I : Inv X pins σ H s) (h : SqL X.K H a xs) (h' : SqL X.K H a ys) : xs = ys := by
  obtain ⟨its, r, ⟨o, n, e, _, _, d⟩, _⟩ := I.list h
  obtain ⟨its', r', ⟨o', n', e', _, _, d'⟩, _⟩ := I.list h'
  rw [e] at e'; cases e'
  rw [d] at d'
  injection d' with d1 _
  have : its = its' := by simpa using congrArg Array.toList d1
  subst this
  exact r.inj r'
theorem Inv.tuple_inj (I : Inv X pins σ H s) (h : SqT X.K H a xs) (h' : SqT X.K H a ys) : xs = ys := by
  obtain ⟨its, r, ⟨o, e, _, n, d⟩, _⟩ := I.tuple h
  obtain ⟨its', r', ⟨o', e', _, n', d'⟩, _⟩ := I.tuple h'
  rw [e] at e'; cases e'
  rw [d] at d'
  injection d' with d1 _
  have : its = its' := by simpa using congrArg Array.toList d1
  subst this
  exact r.inj r'
end

/-! ### another wish about exceptions -/
abbrev Cx.wish (X : Cx) (E : Value → Shared → Prop) : Cx := { X with xe := E }
/-- no exception leaves -/
abbrev Cx.nox (X : Cx) : Cx := X.wish fun _ _ => False
theorem Cx.Ok.wish {X : Cx} (ok : X.Ok) (E : Value → Shared → Prop) : (X.wish E).Ok :=
  ⟨ok.mod, ok.kind, ok.glob, ok.blt, ok.above, ok.inj, ok.has, ok.cab, ok.hd, ok.frames, ok.stk, ok.exf, ok.bs, ok.bsz, ok.noex, ok.exfs, ok.funs, ok.frf⟩
theorem Cx.Ok.unwish {X : Cx} {E : Value → Shared → Prop} (ok : (X.wish E).Ok) : X.Ok :=
  ⟨ok.mod, ok.kind, ok.glob, ok.blt, ok.above, ok.inj, ok.has, ok.cab, ok.hd, ok.frames, ok.stk, ok.exf, ok.bs, ok.bsz, ok.noex, ok.exfs, ok.funs, ok.frf⟩
section
variable {X : Cx} {pins : List (Addr × Obj)} {σ : St} {H : Hp} {s : Shared} {E : Value → Shared → Prop}
theorem Inv.wish (I : Inv X pins σ H s) (E : Value → Shared → Prop) : Inv (X.wish E) pins σ H s := ⟨I.ok.wish E, I.os, I.bare, I.base, I.loc, I.cell, I.free, I.freeC, I.pin, I.hok, I.len⟩
theorem Inv.unwish (I : Inv (X.wish E) pins σ H s) : Inv X pins σ H s := ⟨I.ok.unwish, I.os, I.bare, I.base, I.loc, I.cell, I.free, I.freeC, I.pin, I.hok, I.len⟩
theorem SP.unwish {D : Ends} {f : Flow} {s' : Shared} (h : SP (X.wish E) pins D f s') : SP X pins D f s' := by
  cases f with
  | next => obtain ⟨σ', H', I, q⟩ := h; exact ⟨σ', H', I.unwish, q⟩
  | brk => obtain ⟨σ', H', I, q⟩ := h; exact ⟨σ', H', I.unwish, q⟩
  | cont => obtain ⟨σ', H', I, q⟩ := h; exact ⟨σ', H', I.unwish, q⟩
  | ret u => obtain ⟨v, σ', H', I, r, q⟩ := h; exact ⟨v, σ', H', I.unwish, r, q⟩
theorem PSs.nox {st : List Stmt} {t : TS} (h : PSs X.nox st t) : PSs X st t := fun pins s σ H D I hw =>
  wpAny_mono (h pins s σ H D (I.wish _) hw) (fun _ _ q => q.unwish) fun _ _ z => False.elim z
end

/-! ### blocks and small statements -/
section
variable {X : Cx} {st : Stmt} {rest : List Stmt} {t u : TS} {e : Expr} {te : TE} {pos : Pos}
def tNext : TS := fun D σ H => D.nx σ H
def tSeq (t u : TS) : TS := fun D σ H => t { D with nx := u D } σ H
theorem pss_nil : PSs X [] tNext := fun _ _ σ H _ I h => wpAny_execs_nil ⟨σ, H, I, h⟩
theorem pss_cons (h1 : PS X st t) (h2 : PSs X rest u) : PSs X (st :: rest) (tSeq t u) := by
  intro pins s σ H D I h
  refine wpAny_execs_cons (thn (h1 pins s σ H { D with nx := u D } I h) fun f s1 q => ?_)
  cases f with
  | next =>
    obtain ⟨σ', H', I', q⟩ := q
    exact h2 pins s1 σ' H' D I' q
  | ret v => exact q
  | brk => exact q
  | cont => exact q
theorem pss_one (h1 : PS X st t) : PSs X [st] t := by
  intro pins s σ H D I h
  refine wpAny_execs_cons (thn (h1 pins s σ H D I h) fun f s1 q => ?_)
  cases f with
  | next => exact wpAny_execs_nil q
  | ret v => exact q
  | brk => exact q
  | cont => exact q
/-- in a def's body nothing is shown -/
theorem Inv.quiet {pins : List (Addr × Obj)} {σ : St} {H : Hp} {s : Shared} (I : Inv X pins σ H s) : interactive X.env = false := by simp [interactive, I.ok.kind]
/-- an expression whose value is dropped -/
def tDrop (te : TE) : TS := fun D σ H => te σ H fun _ H1 => D.nx σ H1
theorem ps_expr (he : PE X e te) (hs : swapsWith e none pos.line X.env = pure false := by rfl) : PS X (.Expr e pos) (tDrop te) := by
  intro pins s σ H D I h
  exact wpAny_Expr_any (thn (he pins s σ H _ I h) fun v s1 ⟨x, H1, I1, r1, q1⟩ => ⟨σ, H1, I1, q1⟩) I.quiet hs
def tRet (te : TE) : TS := fun D σ H => te σ H D.rt
theorem ps_ret (he : PE X e te) : PS X (.Return (some e) pos) (tRet te) := by
  intro pins s σ H D I h
  exact wpAny_Return_some (thn (he pins s σ H _ I h) fun v s1 ⟨x, H1, I1, r1, q1⟩ => ⟨x, σ, H1, I1, r1, q1⟩)
def tIfS (c : TT) (t u : TS) : TS := fun D σ H => c σ H fun b H1 => if b = true then t D σ H1 else u D σ H1
theorem ps_if {c : Expr} {a b : List Stmt} {tc : TT} (hc : PT X c tc) (ha : PSs X a t) (hb : PSs X b u) : PS X (.If c a b pos) (tIfS tc t u) := by
  intro pins s σ H D I h
  refine wpAny_If (thn (hc pins s σ H _ I h) fun d s1 ⟨H1, I1, q1⟩ => ?_)
  cases d with
  | true => exact ha pins s1 σ H1 D I1 q1
  | false => exact hb pins s1 σ H1 D I1 q1
/-- code that the proof never comes to -/
def tNever : TS := fun _ _ _ => False
theorem pss_never {sts : List Stmt} : PSs X sts tNever := fun _ _ _ _ _ _ h => h.elim
end

/-! ### targets -/
abbrev TG := V → St → Hp → (St → Hp → Prop) → Prop
abbrev TGs := List V → St → Hp → (St → Hp → Prop) → Prop
def PG (X : Cx) (target : Expr) (t : TG) : Prop :=
  ∀ (pins : List (Addr × Obj)) (s : Shared) (σ : St) (H : Hp) (v : V) (u : Value) (Q : St → Hp → Prop), Inv X pins σ H s → RelV v u → t v σ H Q →
    wpAny (model X.prog X.w) X.A (assign target X.env u) (fun _ s' => ∃ σ' H', Inv X pins σ' H' s' ∧ Q σ' H') X.xe s
/-- several targets, one after another -/
def PGs (X : Cx) (ts : List Expr) (t : TGs) : Prop :=
  ∀ (pins : List (Addr × Obj)) (s : Shared) (σ : St) (H : Hp) (vs : List V) (us : List Value) (Q : St → Hp → Prop), Inv X pins σ H s → Vals vs us → t vs σ H Q →
    wpAny (model X.prog X.w) X.A (assignInOrder ((assignEach ts X.env).map (·.2)) us) (fun _ s' => ∃ σ' H', Inv X pins σ' H' s' ∧ Q σ' H') X.xe s
/-- o[i] = v, by values -/
abbrev TSet := V → V → V → Hp → (Hp → Prop) → Prop
def PSet (X : Cx) (t : TSet) : Prop :=
  ∀ (pins : List (Addr × Obj)) (s : Shared) (σ : St) (H : Hp) (o i v : V) (ov iv u : Value) (Q : Hp → Prop), Inv X pins σ H s → RelV o ov → RelV i iv → RelV v u → t o i v H Q →
    wpAny (model X.prog X.w) X.A (setItem ov iv u) (fun _ s' => ∃ H', Inv X pins σ H' s' ∧ Q H') X.xe s
/-- a op= b, by values -/
abbrev TIp := V → V → Hp → VK → Prop
def PIp (X : Cx) (op : Operator) (t : TIp) : Prop :=
  ∀ (pins : List (Addr × Obj)) (s : Shared) (σ : St) (H : Hp) (x y : V) (v u : Value) (Q : VK), Inv X pins σ H s → RelV x v → RelV y u → t x y H Q →
    wpAny (model X.prog X.w) X.A (inplaceOp op v u) (EP X pins σ Q) X.xe s
section
variable {X : Cx} {pos : Pos}
def gName (i : Nat) : TG := fun v σ H Q => Q (σ.set i (some v)) H
theorem pg_name {i : Nat} {x : Str} (hN : X.N.Nodup) (hi : X.N[i]? = some x) (hx : Loc X.env.scope x) (hf : X.fn x = true ∨ X.env.scope.names.lookup x = some .local := by first | exact .inl rfl | exact .inr rfl | assumption) : PG X (.Name x pos) (gName i) := by
  intro pins s σ H v u Q I r h
  exact wpAny_assign_Name (store_ok I hN hi hx r (fun s' I' => ⟨_, H, I', h⟩) hf)
def gNil : TGs := fun vs σ H Q => vs = [] ∧ Q σ H
def gCons (t : TG) (u : TGs) : TGs := fun vs σ H Q => ∃ v r, vs = v :: r ∧ t v σ H fun σ' H' => u r σ' H' Q
theorem pgs_nil : PGs X [] gNil := by
  intro pins s σ H vs us Q I r h
  obtain ⟨e, h⟩ := h
  subst e
  cases r
  exact assignInOrder_nil ⟨σ, H, I, h⟩
theorem pgs_cons {e : Expr} {es : List Expr} {t : TG} {u : TGs} (h1 : PG X e t) (h2 : PGs X es u)
    (hs : (assignEach (e :: es) X.env).map (·.2) = assign e X.env :: (assignEach es X.env).map (·.2) := by rfl) : PGs X (e :: es) (gCons t u) := by
  intro pins s σ H vs us Q I r h
  obtain ⟨v, vr, e1, h⟩ := h
  subst e1
  cases r with
  | cons r rr =>
    rw [hs]
    refine assignInOrder_cons (thn (h1 pins s σ H _ _ _ I r h) fun _ s1 ⟨σ1, H1, I1, q1⟩ => ?_)
    exact h2 pins s1 σ1 H1 _ _ Q I1 rr q1
/-- (a, b, ..) = a tuple of that length -/
def gTup (K : PySem.W.Frag) (n : Nat) (t : TGs) : TG := fun v σ H Q => ∃ a xs, v = .ref a ∧ SqT K H a xs ∧ xs.length = n ∧ t xs σ H Q
theorem pg_tup {es : List Expr} {k : Nat} {t : TGs} {n : Nat} (hc : X.calm = true) (h : PGs X es t)
    (hn : (assignEach es X.env).length = n := by rfl) (hst : (assignEach es X.env).findIdx? (·.1) = none := by rfl) : PG X (.Tuple es k pos) (gTup X.K n t) := by
  intro pins s σ H v u Q I r hw
  obtain ⟨a, xs, e1, hq, hl, hw⟩ := hw
  subst e1
  cases r
  obtain ⟨its, rv, ht, hz⟩ := I.tuple hq
  refine assign_Tuple_tuple (I.ok.hd hc) ht (by simp [hn, ← hl, rv.length]) hst fun h' hx => ?_
  have I1 : Inv X pins σ H { s with heap := h' } := I.kept (t' := s.toks) fun b o e => hx b o (Nat.ne_of_lt (Heap.lt_size e)) e
  exact h pins _ σ H xs _ Q I1 (by simpa using rv) hw
/-- o[i] = .. -/
def gSub (to ti : TE) (t : TSet) : TG := fun v σ H Q => to σ H fun o H1 => ti σ H1 fun i H2 => t o i v H2 fun H3 => Q σ H3
theorem pg_sub {o i : Expr} {to ti : TE} {t : TSet} (ho : PE X o to) (hi : PE X i ti) (hs : PSet X t)
    (ha : ∀ v, assign (.Subscript o i pos) X.env v = (do
      let ov ← holding [v] (eval o X.env)
      let iv ← holding [v, ov] (eval i X.env)
      standAt pos
      holding [v, ov, iv] (setItem ov iv v)
      release [v, ov, iv] []) := by intro _; rfl) : PG X (.Subscript o i pos) (gSub to ti t) := by
  intro pins s σ H v u Q I r h
  rw [ha]
  refine wpAny_bind (wpAny_holding (thn (ho pins s σ H _ I h) fun ov s1 ⟨x, H1, I1, r1, q1⟩ => ?_))
  refine wpAny_bind (wpAny_holding (thn (hi pins s1 σ H1 _ I1 q1) fun iv s2 ⟨y, H2, I2, r2, q2⟩ => ?_))
  refine wpAny_bind (wpAny_standAt (wpAny_bind (wpAny_holding (thn (hs pins s2 σ H2 x y v ov iv u _ I2 r1 r2 r q2) fun _ s3 ⟨H3, I3, q3⟩ => ?_))))
  exact wpAny_release ⟨σ, H3, I3, q3⟩
/-- target = value -/
def tAsg (te : TE) (g : TG) : TS := fun D σ H => te σ H fun x H1 => g x σ H1 D.nx
theorem ps_asg {tg e : Expr} {te : TE} {g : TG} (he : PE X e te) (hg : PG X tg g) (hs : swapsWithSole [tg] e pos.line X.env = pure false := by rfl) (hw : swappedStores [tg] e X.env = pure none := by rfl)
    (h1 : (assignEach [tg] X.env).map (·.2) = [assign tg X.env] := by rfl) : PS X (.Assign [tg] e pos) (tAsg te g) := by
  intro pins s σ H D I h
  refine wpAny_Assign_stores (thn (he pins s σ H _ I h) fun v s1 ⟨x, H1, I1, r1, q1⟩ => ?_) hs hw
  rw [h1]
  exact thn (hg pins s1 σ H1 x v _ I1 r1 q1) fun _ s2 q => q
/-- name = value -/
theorem ps_set {i : Nat} {x : Str} {e : Expr} {te : TE} {pos' : Pos} (hN : X.N.Nodup) (hi : X.N[i]? = some x) (hx : Loc X.env.scope x) (he : PE X e te) (hs : swapsWith e (some (.Name x pos')) pos.line X.env = pure false := by rfl) (hf : X.fn x = true ∨ X.env.scope.names.lookup x = some .local := by first | exact .inl rfl | exact .inr rfl | assumption) :
    PS X (.Assign [.Name x pos'] e pos) (tAsg te (gName i)) := by
  intro pins s σ H D I h
  refine wpAny_Assign_Name (thn (he pins s σ H _ I h) fun v s1 ⟨y, H1, I1, r1, q1⟩ => ?_) hs
  exact store_ok I1 hN hi hx r1 (fun s2 I2 => ⟨_, H1, I2, q1⟩) hf
/-- name op= e -/
def tAug (i : Nat) (te : TE) (ti : TIp) : TS := fun D σ H => ∃ x, σ[i]? = some (some x) ∧ te σ H fun y H1 => ti x y H1 fun z H2 => D.nx (σ.set i (some z)) H2
theorem ps_aug {i : Nat} {x : Str} {e : Expr} {te : TE} {op : Operator} {ti : TIp} {pos' : Pos} (hN : X.N.Nodup) (hi : X.N[i]? = some x) (hx : Loc X.env.scope x) (he : PE X e te) (ho : PIp X op ti) (hf : X.fn x = true ∨ X.env.scope.names.lookup x = some .local := by first | exact .inl rfl | exact .inr rfl | assumption) :
    PS X (.AugAssign (.Name x pos') op e pos) (tAug i te ti) := by
  intro pins s σ H D I h
  obtain ⟨v, e1, h⟩ := h
  obtain ⟨m, hn, hl⟩ := I.loc
  have vis : Vis X.env.scope x := by rcases hx with k | k; exact .inl k; exact .inr (.inl k)
  obtain ⟨u, r, l⟩ := hl i x v hi e1 vis
  refine wpAny_AugAssign_Name ?_
  have go : wpAny (model X.prog X.w) X.A (eval e X.env) (fun w s₂ => wpAny (model X.prog X.w) X.A (inplaceOp op u w) (fun r s₃ => wpAny (model X.prog X.w) X.A (storeName X.env x r) (fun _ => SP X pins D .next) X.xe s₃) X.xe s₂) X.xe s := by
    refine thn (he pins s σ H _ I h) fun w s1 ⟨y, H1, I1, r1, q1⟩ => ?_
    refine thn (ho pins s1 σ H1 v y u w _ I1 r r1 q1) fun z s2 ⟨zv, H2, I2, r2, q2⟩ => ?_
    exact store_ok I2 hN hi hx r2 (fun s3 I3 => ⟨_, H2, I3, q2⟩) hf
  rcases l with ⟨hk, hm⟩ | ⟨hk, c, hc, hcell⟩
  · exact wpAny_loadName_local I.ok.kind hk hn hm go
  · rcases hk with hk | hk
    · exact wpAny_loadName_cell I.ok.kind hk hc hcell go
    · rcases hx with k | k
      · have : X.env.scope.names.lookup x = some .free := hk
        rw [k] at this; cases this
      · have : X.env.scope.names.lookup x = some .free := hk
        rw [k] at this; cases this
/-- ints -/
def ipI (f : Int → Int → Int) : TIp := fun x y H Q => ∃ i j, x = .int i ∧ y = .int j ∧ Q (.int (f i j)) H
theorem ip_add : PIp X .Add (ipI fun i j => i + j) := by
  intro pins s σ H x y v u Q I r1 r2 h
  obtain ⟨i, j, e1, e2, q⟩ := h
  subst e1; subst e2
  obtain ⟨t, rfl⟩ := r1
  obtain ⟨t', rfl⟩ := r2
  exact iadd_int ⟨.int _, H, I.tok _, ⟨_, rfl⟩, q⟩
end

/-! ### while -/
section
variable {X : Cx} {pos : Pos}
/-- the invariant W with its measure -/
def tWhile (c : TT) (tb : TS) : TS := fun D σ H => ∃ W : Nat → St → Hp → Prop, (∃ m, W m σ H) ∧ ∀ m σ H, W m σ H →
  c σ H fun b H1 => if b = true then ∃ N : St → Hp → Prop, (∀ σ' H', N σ' H' → ∃ m', m' < m ∧ W m' σ' H') ∧ tb { D with nx := N, ct := N, bk := D.nx } σ H1 else D.nx σ H1
theorem ps_while {c : Expr} {body : List Stmt} {tc : TT} {tb : TS} (hp : PassesOwn (model X.prog X.w) X.A X.env X.xe) (hc : PT X c tc) (hb : PSs X body tb) : PS X (.While c body [] pos) (tWhile tc tb) := by
  intro pins s σ H D I h
  obtain ⟨W, ⟨m0, w0⟩, turn⟩ := h
  refine wpAny_While (codeAny_whileLoop (fun n s' => ∃ σ' H', Inv X pins σ' H' s' ∧ W n σ' H') ?_ m0 ⟨σ, H, I, w0⟩)
  rintro n s1 ⟨σ1, H1, I1, w1⟩
  refine wpAny_passesOwn hp (thn (hc pins s1 σ1 H1 _ I1 (turn n σ1 H1 w1)) fun b s2 ⟨H2, I2, q2⟩ => ?_)
  cases b with
  | true =>
    obtain ⟨N, hN, q2⟩ := q2
    rw [if_pos rfl]
    refine wpAny_passesOwn hp (thn (hb pins s2 σ1 H2 _ I2 q2) fun f s3 q3 => ?_)
    cases f with
    | next =>
      obtain ⟨σ3, H3, I3, n3⟩ := q3
      obtain ⟨m', hm, w3⟩ := hN σ3 H3 n3
      exact ⟨m', hm, σ3, H3, I3, w3⟩
    | cont =>
      obtain ⟨σ3, H3, I3, n3⟩ := q3
      obtain ⟨m', hm, w3⟩ := hN σ3 H3 n3
      exact ⟨m', hm, σ3, H3, I3, w3⟩
    | brk => exact q3
    | ret v => exact q3
  | false =>
    rw [if_neg Bool.false_ne_true]
    exact wpAny_execs_nil ⟨σ1, H2, I2, q2⟩
end

/-! ### what a loop or a comprehension walks -/
/-- at turn i: it yields x (the heap may grow), or it stops -/
structure It where
  go : Nat → Hp → Prop
  yld : Nat → Hp → V → Hp → Prop
  stop : Nat → Hp → Prop
/-- the iterator's own objects may turn: they are not the frame's, not pinned, younger than the entry (or a comprehension's own) -/
def FpOk (X : Cx) (pins : List (Addr × Obj)) (H : Hp) (b : Addr) : Prop :=
  H b = none ∧ b ≠ X.env.locals ∧ b ∉ X.fs ∧ (b ∈ X.ex ∨ X.s₀.heap.objs.size ≤ b) ∧ (∀ x c, X.env.cells.lookup x = some c → c ≠ b) ∧ ∀ p ∈ X.pn ++ pins, p.1 ≠ b
theorem Inv.fpOk {X : Cx} {pins : List (Addr × Obj)} {σ : St} {H H' : Hp} {s : Shared} {b : Addr} (I : Inv X pins σ H s) (hb : s.heap.objs.size ≤ b) (hn : H' b = none) : FpOk X pins H' b := by
  refine ⟨hn, Nat.ne_of_gt (Nat.lt_of_lt_of_le I.lt hb), I.nofs hb, .inr (Nat.le_trans I.sz hb), fun x c e z => ?_, fun p hp z => ?_⟩
  · obtain ⟨v, q⟩ := I.cell x c e
    exact absurd (Nat.lt_of_lt_of_le q.lt (by rw [z]; exact hb)) (Nat.lt_irrefl _)
  · exact absurd (Nat.lt_of_lt_of_le (Heap.lt_size (I.pin p hp).1) (by rw [z]; exact hb)) (Nat.lt_irrefl _)
structure Turn (P : Program) (w : World) (K : PySem.W.Frag) (tg : Expr) (J : It) (fp : List Addr) (it : Addr) (tn : Nat → Heap → Prop) : Prop where
  mem : it ∈ fp
  obj : ∀ i h, tn i h → ∀ b ∈ fp, ∃ o, h.get? b = some o ∧ ∀ v, o.data ≠ .cell v
  keep : ∀ i h h', tn i h → (∀ b ∈ fp, ∀ o, h.get? b = some o → h'.get? b = some o) → tn i h'
  item : ∀ (X : Cx), X.prog = P → X.w = w → X.K = K → X.calm = true → ∀ (i : Nat) (pins : List (Addr × Obj)) (s : Shared) (σ : St) (H : Hp) (E : Value → Shared → Prop), Inv X pins σ H s → (∀ b ∈ fp, FpOk X pins H b) → tn i s.heap → J.go i H →
    wpAny (model P w) X.A (pyNext (.ref it)) (fun r s1 => ∃ u, r = some u ∧
      wpAny (model P w) X.A (letOwnedTupleGo tg (.ref it) u) (fun _ s2 => ∃ x H', Inv X pins σ H' s2 ∧ RelV x u ∧ J.yld i H x H' ∧ tn (i + 1) s2.heap ∧ ∀ b ∈ fp, H' b = none) E s1) E s
  done : ∀ (X : Cx), X.prog = P → X.w = w → X.K = K → X.calm = true → ∀ (i : Nat) (pins : List (Addr × Obj)) (s : Shared) (σ : St) (H : Hp) (E : Value → Shared → Prop), Inv X pins σ H s → (∀ b ∈ fp, FpOk X pins H b) → tn i s.heap → J.stop i H →
    wpAny (model P w) X.A (pyNext (.ref it)) (fun r s1 => r = none ∧ Inv X pins σ H s1) E s
  self : ∀ (A : Around) (i : Nat) (s : Shared) (Q : Value → Shared → Prop) (E : Value → Shared → Prop), tn i s.heap → Q (.ref it) s → wpAny (model P w) A (pyIter (.ref it)) Q E s
abbrev TI := St → Hp → (It → Hp → Prop) → Prop
/-- an iterator has come -/
def PIE (X : Cx) (pins : List (Addr × Obj)) (σ : St) (tg : Expr) (R : It → Hp → Prop) (itv : Value) (s2 : Shared) : Prop :=
  ∃ (it : Addr) (fp : List Addr) (tn : Nat → Heap → Prop) (J : It) (H' : Hp), itv = .ref it ∧ Inv X pins σ H' s2 ∧ Turn X.prog X.w X.K tg J fp it tn ∧ tn 0 s2.heap ∧ (∀ b ∈ fp, FpOk X pins H' b) ∧ R J H'
def PI (X : Cx) (tg iter : Expr) (wi : TI) : Prop :=
  ∀ (pins : List (Addr × Obj)) (s : Shared) (σ : St) (H : Hp) (R : It → Hp → Prop), Inv X pins σ H s → wi σ H R →
    wpAny (model X.prog X.w) X.A (eval iter X.env) (fun v s1 => wpAny (model X.prog X.w) X.A (pyIter v) (PIE X pins σ tg R) X.xe s1) X.xe s

/-- the step ahead of the store is nothing for an iterator that keeps no tuple -/
theorem go_of {M : Model} {A : Around} {E : Value → Shared → Prop} {s : Shared} {tg : Expr} {it : Addr} {u : Value} {o : Obj} {n : String} {vs : Array Value} {Q : Unit → Shared → Prop} (ho : s.heap.get? it = some o) (hc : o.cls = .type n) (hd : o.data = .fields vs)
    (hn : ["enumerate", "zip", "dict_itemiterator", "dict_reverseitemiterator", "odict_iterator", "itertools.zip_longest", "itertools.pairwise"].contains n = false) (hQ : Q () s) : wpAny M A (letOwnedTupleGo tg (.ref it) u) Q E s := by
  unfold letOwnedTupleGo
  cases tg <;> first
    | exact wpAny_pure hQ
    | (cases u <;> first
        | exact wpAny_pure hQ
        | (refine wpAny_bind (wpAny_load ho ?_)
           rw [hc, hd]
           show wpAny M A (if (["enumerate", "zip", "dict_itemiterator", "dict_reverseitemiterator", "odict_iterator", "itertools.zip_longest", "itertools.pairwise"].contains n && vs[0]? == some (rawInt _)) = true then _ else _) Q E s
           rw [if_neg (by intro h; rw [hn, Bool.false_and] at h; cases h)]
           exact wpAny_pure hQ))

/-- the list at a, as it stands at each turn (a loop may append to it) -/
def Itl (K : PySem.W.Frag) (a : Addr) : It :=
  ⟨fun i H => ∃ xs x, SqL K H a xs ∧ xs[i]? = some x, fun i H x H' => H' = H ∧ ∀ xs, SqL K H a xs → xs[i]? = some x, fun i H => ∃ xs, SqL K H a xs ∧ xs.length ≤ i⟩
def Itt (K : PySem.W.Frag) (a : Addr) : It :=
  ⟨fun i H => ∃ xs x, SqT K H a xs ∧ xs[i]? = some x, fun i H x H' => H' = H ∧ ∀ xs, SqT K H a xs → xs[i]? = some x, fun i H => ∃ xs, SqT K H a xs ∧ xs.length ≤ i⟩
/-- lo, lo + 1, .. (n of them) -/
def Itr (lo : Int) (n : Nat) : It := ⟨fun i _ => i < n, fun i H x H' => H' = H ∧ x = .int (lo + i), fun i _ => n ≤ i⟩
theorem turn_list {P : Program} {w : World} {K : PySem.W.Frag} {tg : Expr} (a it : Addr) : Turn P w K tg (Itl K a) [it] it (fun i h => h.IsListIter it a i) where
  mem := by simp
  obj := fun i h st b hb => by
    have e : b = it := by simpa using hb
    subst e
    obtain ⟨o, e, c, d⟩ := st
    exact ⟨o, e, fun v z => by rw [d] at z; cases z⟩
  keep := fun i h h' st k => st.at fun o e => k it (by simp) o e
  item := by
    intro X hP hw hK hc i pins s σ H E I hf st hg
    subst hP hw hK
    obtain ⟨xs, x, hq, hx⟩ := hg
    obtain ⟨its, rv, p, hz⟩ := I.list hq
    obtain ⟨u, hu, ru⟩ := rv.get hx
    obtain ⟨f0, f1, f2, f3, f4, f5⟩ := hf it (by simp)
    refine wpAny_pyNext_list_item st p.isList (x := u) (by simpa using hu) fun h' st' sb => ?_
    have I1 : Inv X pins σ H { s with heap := h' } := I.turned (t' := s.toks) (fun b o hb e => (sb.2 b hb).trans e) f0 f1 f3 f4 f5
    obtain ⟨o, e, c, d⟩ := id st'
    exact ⟨u, rfl, go_of (s := { s with heap := h' }) e c d (by decide) ⟨x, H, I1, ru, ⟨rfl, fun ys hy => by rw [I.list_inj hy hq]; exact hx⟩, st', fun b hb => (hf b hb).1⟩⟩
  done := by
    intro X hP hw hK hc i pins s σ H E I hf st hg
    subst hP hw hK
    obtain ⟨xs, hq, hx⟩ := hg
    obtain ⟨its, rv, p, hz⟩ := I.list hq
    obtain ⟨f0, f1, f2, f3, f4, f5⟩ := hf it (by simp)
    have hl := rv.length
    exact wpAny_pyNext_list_end (I.ok.hd hc) st p.isList (by simp; omega) fun h' eb => ⟨rfl, I.turned (t' := s.toks) (fun b o hb e => eb b o hb e) f0 f1 f3 f4 f5⟩
  self := fun _ _ _ _ _ st h => wpAny_pyIter_listiter st h
theorem turn_tuple {P : Program} {w : World} {K : PySem.W.Frag} {tg : Expr} (a it : Addr) : Turn P w K tg (Itt K a) [it] it (fun i h => h.IsTupleIter it a i) where
  mem := by simp
  obj := fun i h st b hb => by
    have e : b = it := by simpa using hb
    subst e
    obtain ⟨o, e, c, d⟩ := st
    exact ⟨o, e, fun v z => by rw [d] at z; cases z⟩
  keep := fun i h h' st k => st.at fun o e => k it (by simp) o e
  item := by
    intro X hP hw hK hc i pins s σ H E I hf st hg
    subst hP hw hK
    obtain ⟨xs, x, hq, hx⟩ := hg
    obtain ⟨its, rv, p, hz⟩ := I.tuple hq
    obtain ⟨u, hu, ru⟩ := rv.get hx
    obtain ⟨f0, f1, f2, f3, f4, f5⟩ := hf it (by simp)
    refine wpAny_pyNext_tuple_item st (show s.heap.IsTuple a its.toArray from p) (x := u) (by simpa using hu) fun h' st' sb => ?_
    have I1 : Inv X pins σ H { s with heap := h' } := I.turned (t' := s.toks) (fun b o hb e => (sb.2 b hb).trans e) f0 f1 f3 f4 f5
    obtain ⟨o, e, c, d⟩ := id st'
    exact ⟨u, rfl, go_of (s := { s with heap := h' }) e c d (by decide) ⟨x, H, I1, ru, ⟨rfl, fun ys hy => by rw [I.tuple_inj hy hq]; exact hx⟩, st', fun b hb => (hf b hb).1⟩⟩
  done := by
    intro X hP hw hK hc i pins s σ H E I hf st hg
    subst hP hw hK
    obtain ⟨xs, hq, hx⟩ := hg
    obtain ⟨its, rv, p, hz⟩ := I.tuple hq
    obtain ⟨f0, f1, f2, f3, f4, f5⟩ := hf it (by simp)
    have hl := rv.length
    exact wpAny_pyNext_tuple_end (I.ok.hd hc) st (show s.heap.IsTuple a its.toArray from p) (by simp; omega) fun h' eb => ⟨rfl, I.turned (t' := s.toks) (fun b o hb e => eb b o hb e) f0 f1 f3 f4 f5⟩
  self := fun _ _ _ _ _ st h => wpAny_pyIter_tupleiter st h
theorem turn_range {P : Program} {w : World} {K : PySem.W.Frag} {tg : Expr} (it : Addr) (lo : Int) (n : Nat) : Turn P w K tg (Itr lo n) [it] it (fun i h => IsRangeIter h it (lo + (i : Nat) * 1) ((n : Int) - (i : Nat)) 1) where
  mem := by simp
  obj := fun i h st b hb => by
    have e : b = it := by simpa using hb
    subst e
    exact ⟨_, st, fun v z => by
      have z' : Data.fields _ = Data.cell v := z
      cases z'⟩
  keep := fun i h h' st k => k it (by simp) _ st
  item := by
    intro X hP hw hK hc i pins s σ H E I hf st hg
    subst hP hw hK
    obtain ⟨f0, f1, f2, f3, f4, f5⟩ := hf it (by simp)
    have W := Walks.range (prog := X.prog) (w := X.w) (I.ok.hd hc) it lo 1 n
    refine W.item i s _ _ hg st fun v h' tk hv st' kk => ?_
    obtain ⟨t, rfl⟩ := hv
    have I1 : Inv X pins σ H { s with heap := h', toks := tk } := I.turned (fun b o hb e => kk b o (by simpa using hb) e) f0 f1 f3 f4 f5
    refine ⟨_, rfl, go_of (s := { s with heap := h', toks := tk }) (n := "range_iterator") st' rfl rfl (by decide) ⟨.int (lo + i), H, I1, ⟨t, ?_⟩, ⟨rfl, rfl⟩, st', fun b hb => (hf b hb).1⟩⟩
    rw [Int.mul_one]
  done := by
    intro X hP hw hK hc i pins s σ H E I hf st hg
    subst hP hw hK
    obtain ⟨f0, f1, f2, f3, f4, f5⟩ := hf it (by simp)
    exact wpAny_pyNext_range_end (I.ok.hd hc) st (by have : n ≤ i := hg; omega) fun h' eb => ⟨rfl, I.turned (t' := s.toks) (fun b o hb e => eb b o hb e) f0 f1 f3 f4 f5⟩
  self := fun _ _ _ _ _ st h => wpAny_pyIter_rangeiter st h
end L2

namespace L2
open PySem PySem.Spec PyProof.Rows
section
variable {X : Cx} {tg : Expr}
def iList (K : PySem.W.Frag) (tl : TE) : TI := fun σ H R => tl σ H fun x H1 => ∃ a, x = .ref a ∧ (∃ xs, SqL K H1 a xs) ∧ R (Itl K a) H1
def iTup (K : PySem.W.Frag) (tl : TE) : TI := fun σ H R => tl σ H fun x H1 => ∃ a, x = .ref a ∧ (∃ xs, SqT K H1 a xs) ∧ R (Itt K a) H1
theorem pi_list {l : Expr} {tl : TE} (hl : PE X l tl) : PI X tg l (iList X.K tl) := by
  intro pins s σ H R I h
  refine thn (hl pins s σ H _ I h) fun v s1 ⟨x, H1, I1, r1, q1⟩ => ?_
  obtain ⟨a, e, ⟨xs, hq⟩, q⟩ := q1
  subst e
  cases r1
  obtain ⟨its, rv, p, hz⟩ := I1.list hq
  refine wpAny_pyIter_list p.isList ?_
  refine ⟨s1.heap.objs.size, [s1.heap.objs.size], _, _, H1, rfl, I1.kept (t' := s1.toks) fun b o e => Heap.get?_push_of_some _ e, turn_list a _, ⟨_, Heap.get?_push_size _ rfl, rfl, rfl⟩, fun b hb => ?_, q⟩
  have e : b = s1.heap.objs.size := by simpa using hb
  subst e
  exact I1.fpOk (Nat.le_refl _) (I1.hok.fresh (Nat.le_refl _))
theorem pi_tup {l : Expr} {tl : TE} (hl : PE X l tl) : PI X tg l (iTup X.K tl) := by
  intro pins s σ H R I h
  refine thn (hl pins s σ H _ I h) fun v s1 ⟨x, H1, I1, r1, q1⟩ => ?_
  obtain ⟨a, e, ⟨xs, hq⟩, q⟩ := q1
  subst e
  cases r1
  obtain ⟨its, rv, p, hz⟩ := I1.tuple hq
  refine wpAny_pyIter_tuple (show s1.heap.IsTuple a its.toArray from p) ?_
  refine ⟨s1.heap.objs.size, [s1.heap.objs.size], _, _, H1, rfl, I1.kept (t' := s1.toks) fun b o e => Heap.get?_push_of_some _ e, turn_tuple a _, ⟨_, Heap.get?_push_size _ rfl, rfl, rfl⟩, fun b hb => ?_, q⟩
  have e : b = s1.heap.objs.size := by simpa using hb
  subst e
  exact I1.fpOk (Nat.le_refl _) (I1.hok.fresh (Nat.le_refl _))
/-- a range object just made, walked -/
theorem range_it {pins : List (Addr × Obj)} {σ : St} {H : Hp} {s : Shared} {R : It → Hp → Prop} {E : Value → Shared → Prop} {lo hi : Int} {t u v : Tok} {tk : Nat} (I : Inv X pins σ H s) (h1 : -(2 ^ 62) ≤ lo) (h2 : lo < 2 ^ 62) (h3 : -(2 ^ 62) ≤ hi) (h4 : hi < 2 ^ 62)
    (q : R (Itr lo (hi - lo).toNat) H) : wpAny (model X.prog X.w) X.A (pyIter (.ref s.heap.objs.size)) (PIE X pins σ tg R) E { s with heap := s.heap.push { cls := .type "range", data := .fields #[.int lo t, .int hi u, .int 1 v] }, toks := tk } := by
  refine wpAny_pyIter_range (IsRange.new ..) (small_one h1 h2 h3 h4) ?_
  have I1 : Inv X pins σ H { s with heap := s.heap.push { cls := .type "range", data := .fields #[.int lo t, .int hi u, .int 1 v] }, toks := tk } := I.kept fun b o e => Heap.get?_push_of_some _ e
  refine ⟨(s.heap.push { cls := .type "range", data := .fields #[.int lo t, .int hi u, .int 1 v] }).objs.size, [(s.heap.push { cls := .type "range", data := .fields #[.int lo t, .int hi u, .int 1 v] }).objs.size], _, _, H, rfl,
    I1.kept (t' := tk) fun b o e => Heap.get?_push_of_some _ e, turn_range _ lo (hi - lo).toNat, ?_, fun b hb => ?_, q⟩
  · have e1 : lo + ((0 : Nat) : Int) * 1 = lo := by simp
    have e2 : (((hi - lo).toNat : Nat) : Int) - ((0 : Nat) : Int) = Builtin.Range.rangeSize lo hi 1 := by rw [rangeSize_one]; split <;> omega
    show IsRangeIter _ _ (lo + ((0 : Nat) : Int) * 1) ((((hi - lo).toNat : Nat) : Int) - ((0 : Nat) : Int)) 1
    rw [e1, e2]
    exact Heap.get?_push_size _ rfl
  · have e : b = (s.heap.push { cls := .type "range", data := .fields #[.int lo t, .int hi u, .int 1 v] }).objs.size := by simpa using hb
    subst e
    exact I1.fpOk (Nat.le_refl _) (I1.hok.fresh (Nat.le_refl _))
def iRng1 (ta : TA) : TI := fun σ H R => ta σ H fun vs H1 => ∃ j : Int, vs = [.int j] ∧ -(2 ^ 62) ≤ j ∧ j < 2 ^ 62 ∧ R (Itr 0 j.toNat) H1
def iRng2 (ta : TA) : TI := fun σ H R => ta σ H fun vs H1 => ∃ i j : Int, vs = [.int i, .int j] ∧ (-(2 ^ 62) ≤ i ∧ i < 2 ^ 62 ∧ -(2 ^ 62) ≤ j ∧ j < 2 ^ 62) ∧ R (Itr i (j - i).toNat) H1
theorem pi_range1 {a : Expr} {ta : TA} {p pos : Pos} (hg : Gl X "range") (hm : X.mg "range" = none) (ha : PA X [a] ta) (hs : starEach [a] X.env = [(false, eval a X.env)] := by rfl) : PI X tg (.Call (.Name "range" p) [a] [] pos) (iRng1 ta) := by
  intro pins s σ H R I h
  refine Call_ (ld_blt I hg hm boot_range (PyProof.Rows.callWith_type1 (thn (ha pos pins s σ H _ I h) fun us s1 ⟨vs, H1, I1, r1, q1⟩ => ?_) hs rfl))
  obtain ⟨j, e, q1, q2, q⟩ := q1
  subst e
  cases r1 with
  | cons r rr =>
    cases rr
    obtain ⟨t, rfl⟩ := r
    exact call_range_1 (range_it I1 (by omega) (by omega) q1 q2 (by simpa using q))
theorem pi_range2 {a b : Expr} {ta : TA} {p pos : Pos} (hg : Gl X "range") (hm : X.mg "range" = none) (ha : PA X [a, b] ta) (hs : starEach [a, b] X.env = [(false, eval a X.env), (false, eval b X.env)] := by rfl) (hs2 : starEach [b] X.env = [(false, eval b X.env)] := by rfl) :
    PI X tg (.Call (.Name "range" p) [a, b] [] pos) (iRng2 ta) := by
  intro pins s σ H R I h
  refine Call_ (ld_blt I hg hm boot_range (PyProof.Rows.callWith_type1 (thn (ha pos pins s σ H _ I h) fun us s1 ⟨vs, H1, I1, r1, q1⟩ => ?_) (by rw [hs, hs2]) (by rw [hs2]; rfl)))
  obtain ⟨i, j, e, ⟨q1, q2, q3, q4⟩, q⟩ := q1
  subst e
  cases r1 with
  | cons r rr =>
    cases rr with
    | cons r' rr =>
      cases rr
      obtain ⟨t, rfl⟩ := r
      obtain ⟨t', rfl⟩ := r'
      exact call_range_2 (range_it I1 q1 q2 q3 q4 q)

/-! ### for -/
/-- W: the invariant by the turn and a measure; N: what the body is to reach -/
def tFor (wi : TI) (g : TG) (tb : TS) : TS := fun D σ H => wi σ H fun J H1 => ∃ W : Nat → Nat → St → Hp → Prop, (∃ m, W 0 m σ H1) ∧ ∀ i m σ H, W i m σ H →
  (J.stop i H ∧ D.nx σ H) ∨ (J.go i H ∧ ∃ N : St → Hp → Prop, (∀ σ' H', N σ' H' → ∃ m', m' < m ∧ W (i + 1) m' σ' H') ∧ ∀ x H', J.yld i H x H' → g x σ H' fun σ2 H2 => tb { D with nx := N, ct := N, bk := D.nx } σ2 H2)
/-- the records at fp as they stand -/
def pinsAt (fp : List Addr) (h : Heap) : List (Addr × Obj) := fp.filterMap fun b => (h.get? b).map fun o => (b, o)
theorem mem_pinsAt {fp : List Addr} {h : Heap} {b : Addr} {o : Obj} (hb : b ∈ fp) (e : h.get? b = some o) : (b, o) ∈ pinsAt fp h := List.mem_filterMap.mpr ⟨b, hb, by rw [e]; rfl⟩
theorem of_pinsAt {fp : List Addr} {h : Heap} {p : Addr × Obj} (hp : p ∈ pinsAt fp h) : p.1 ∈ fp ∧ h.get? p.1 = some p.2 := by
  obtain ⟨b, hb, e⟩ := List.mem_filterMap.mp hp
  cases q : h.get? b with
  | none => rw [q] at e; cases e
  | some o =>
    rw [q] at e
    have e' : (b, o) = p := Option.some.inj e
    subst e'
    exact ⟨hb, q⟩
theorem Inv.pinned {pins : List (Addr × Obj)} {σ : St} {H : Hp} {s : Shared} {fp : List Addr} (I : Inv X pins σ H s) (hf : ∀ b ∈ fp, FpOk X pins H b) (ho : ∀ b ∈ fp, ∃ o, s.heap.get? b = some o ∧ ∀ v, o.data ≠ .cell v) : Inv X (pins ++ pinsAt fp s.heap) σ H s :=
  I.pins_of fun p hp => (List.mem_append.mp hp).elim (fun z => I.pin p (List.mem_append_right _ z)) fun z => by
    obtain ⟨hb, e⟩ := of_pinsAt z
    obtain ⟨f0, f1, f2, _⟩ := hf p.1 hb
    obtain ⟨o, e', d⟩ := ho p.1 hb
    rw [e] at e'; cases e'
    exact ⟨e, f0, f1, f2, d⟩
theorem Inv.unpinned {pins pl : List (Addr × Obj)} {σ : St} {H : Hp} {s : Shared} (I : Inv X (pins ++ pl) σ H s) : Inv X pins σ H s := I.pins_of fun p hp => I.pin p (List.mem_append_right _ (List.mem_append_left _ hp))
theorem ps_for {iter : Expr} {body : List Stmt} {wi : TI} {g : TG} {tb : TS} {pos : Pos} (hp : PassesOwn (model X.prog X.w) X.A X.env X.xe) (hc : X.calm = true) (hi : PI X tg iter wi) (hg : PG X tg g) (hb : PSs X body tb)
    (hs : ∀ x, foldedSetIterable iter X.env x = pure x := by intro _; rfl) : PS X (.For tg iter body [] pos) (tFor wi g tb) := by
  intro pins s σ H D I h
  refine wpAny_For (thn (hi pins s σ H _ I h) fun v s1 h1 => thn h1 fun itv s2 h2 => ?_) hs
  obtain ⟨it, fp, tn, J, H2, e, I2, T, st2, f2, W, ⟨m0, w0⟩, turn⟩ := h2
  subst e
  -- what stays true of the iterator's objects through the loop
  have stat : ∀ {H' : Hp}, (∀ b ∈ fp, H' b = none) → ∀ b ∈ fp, FpOk X pins H' b := fun hn b hb => ⟨hn b hb, (f2 b hb).2⟩
  refine codeAny_forLoop_any (fun n s' => ∃ i σ' H', Inv X pins σ' H' s' ∧ tn i s'.heap ∧ (∀ b ∈ fp, H' b = none) ∧ W i n σ' H') ?_ m0 ⟨0, σ, H2, I2, st2, fun b hb => (f2 b hb).1, w0⟩
  rintro n s3 ⟨i, σ3, H3, I3, st3, fr3, w3⟩
  rcases turn i n σ3 H3 w3 with ⟨stop, qn⟩ | ⟨go, N, hN, step⟩
  · refine wpAny_passesOwn hp (thn (T.done X rfl rfl rfl hc i pins s3 σ3 H3 X.xe I3 (stat fr3) st3 stop) fun r s4 ⟨hr, I4⟩ => ?_)
    subst hr
    exact wpAny_execs_nil ⟨σ3, H3, I4, qn⟩
  · refine wpAny_passesOwn hp (thn (T.item X rfl rfl rfl hc i pins s3 σ3 H3 X.xe I3 (stat fr3) st3 go) fun r s4 ⟨u, hr, h4⟩ => ?_)
    subst hr
    refine wpAny_passesOwn hp (thn h4 fun _ s5 ⟨x, H5, I5, r5, y5, st5, fr5⟩ => ?_)
    have I5' := I5.pinned (stat fr5) (T.obj _ _ st5)
    refine wpAny_passesOwn hp (thn (hg _ s5 σ3 H5 x u _ I5' r5 (step x H5 y5)) fun _ s6 ⟨σ6, H6, I6, q6⟩ => ?_)
    refine wpAny_passesOwn hp (thn (hb _ s6 σ6 H6 _ I6 q6) fun f s7 q7 => ?_)
    have again : ∀ {σ7 : St} {H7 : Hp}, Inv X (pins ++ pinsAt fp s5.heap) σ7 H7 s7 → N σ7 H7 → ∃ m, m < n ∧ ∃ i σ' H', Inv X pins σ' H' s7 ∧ tn i s7.heap ∧ (∀ b ∈ fp, H' b = none) ∧ W i m σ' H' := fun {σ7 H7} I7 n7 => by
      obtain ⟨m', hm, w7⟩ := hN σ7 H7 n7
      refine ⟨m', hm, i + 1, σ7, H7, I7.unpinned, T.keep _ _ _ st5 fun b hb o e => (I7.pin (b, o) (List.mem_append_right _ (List.mem_append_right _ (mem_pinsAt hb e)))).1, fun b hb => ?_, w7⟩
      obtain ⟨o, e, d⟩ := T.obj _ _ st5 b hb
      exact (I7.pin (b, o) (List.mem_append_right _ (List.mem_append_right _ (mem_pinsAt hb e)))).2.1
    cases f with
    | next => obtain ⟨σ7, H7, I7, n7⟩ := q7; exact again I7 n7
    | cont => obtain ⟨σ7, H7, I7, n7⟩ := q7; exact again I7 n7
    | brk => obtain ⟨σ7, H7, I7, q7⟩ := q7; exact ⟨σ7, H7, I7.unpinned, q7⟩
    | ret v => obtain ⟨x7, σ7, H7, I7, r7, q7⟩ := q7; exact ⟨x7, σ7, H7, I7.unpinned, r7, q7⟩
end

/-! ### the forms one uses -/
/-- over a list that the body leaves as it is -/
theorem for_list {K : PySem.W.Frag} {a : Addr} {xs : List V} {g : TG} {tb : TS} {D : Ends} {σ : St} {H : Hp} (Pv : Nat → St → Hp → Prop) (h0 : Pv 0 σ H) (hl : ∀ i σ H, i ≤ xs.length → Pv i σ H → SqL K H a xs)
    (hs : ∀ i x σ H, xs[i]? = some x → Pv i σ H → g x σ H fun σ2 H2 => tb { D with nx := Pv (i + 1), ct := Pv (i + 1), bk := D.nx } σ2 H2) (hd : ∀ σ H, Pv xs.length σ H → D.nx σ H) :
    ∃ W : Nat → Nat → St → Hp → Prop, (∃ m, W 0 m σ H) ∧ ∀ i m σ H, W i m σ H →
      ((Itl K a).stop i H ∧ D.nx σ H) ∨ ((Itl K a).go i H ∧ ∃ N : St → Hp → Prop, (∀ σ' H', N σ' H' → ∃ m', m' < m ∧ W (i + 1) m' σ' H') ∧ ∀ x H', (Itl K a).yld i H x H' → g x σ H' fun σ2 H2 => tb { D with nx := N, ct := N, bk := D.nx } σ2 H2) := by
  refine ⟨fun i m σ H => m = xs.length - i ∧ i ≤ xs.length ∧ Pv i σ H, ⟨xs.length, by simp, Nat.zero_le _, h0⟩, ?_⟩
  rintro i m σ H ⟨rfl, hi, p⟩
  have q := hl i σ H hi p
  by_cases hlt : i < xs.length
  · refine .inr ⟨⟨xs, xs[i], q, by simp [hlt]⟩, Pv (i + 1), fun σ' H' p' => ⟨xs.length - (i + 1), by omega, rfl, hlt, p'⟩, fun x H' y => ?_⟩
    obtain ⟨e, y⟩ := y
    subst e
    exact hs i x σ _ (y xs q) p
  · have e : i = xs.length := by omega
    subst e
    exact .inl ⟨⟨xs, q, Nat.le_refl _⟩, hd σ H p⟩
theorem for_tup {K : PySem.W.Frag} {a : Addr} {xs : List V} {g : TG} {tb : TS} {D : Ends} {σ : St} {H : Hp} (Pv : Nat → St → Hp → Prop) (h0 : Pv 0 σ H) (hl : ∀ i σ H, i ≤ xs.length → Pv i σ H → SqT K H a xs)
    (hs : ∀ i x σ H, xs[i]? = some x → Pv i σ H → g x σ H fun σ2 H2 => tb { D with nx := Pv (i + 1), ct := Pv (i + 1), bk := D.nx } σ2 H2) (hd : ∀ σ H, Pv xs.length σ H → D.nx σ H) :
    ∃ W : Nat → Nat → St → Hp → Prop, (∃ m, W 0 m σ H) ∧ ∀ i m σ H, W i m σ H →
      ((Itt K a).stop i H ∧ D.nx σ H) ∨ ((Itt K a).go i H ∧ ∃ N : St → Hp → Prop, (∀ σ' H', N σ' H' → ∃ m', m' < m ∧ W (i + 1) m' σ' H') ∧ ∀ x H', (Itt K a).yld i H x H' → g x σ H' fun σ2 H2 => tb { D with nx := N, ct := N, bk := D.nx } σ2 H2) := by
  refine ⟨fun i m σ H => m = xs.length - i ∧ i ≤ xs.length ∧ Pv i σ H, ⟨xs.length, by simp, Nat.zero_le _, h0⟩, ?_⟩
  rintro i m σ H ⟨rfl, hi, p⟩
  have q := hl i σ H hi p
  by_cases hlt : i < xs.length
  · refine .inr ⟨⟨xs, xs[i], q, by simp [hlt]⟩, Pv (i + 1), fun σ' H' p' => ⟨xs.length - (i + 1), by omega, rfl, hlt, p'⟩, fun x H' y => ?_⟩
    obtain ⟨e, y⟩ := y
    subst e
    exact hs i x σ _ (y xs q) p
  · have e : i = xs.length := by omega
    subst e
    exact .inl ⟨⟨xs, q, Nat.le_refl _⟩, hd σ H p⟩
theorem for_range {lo : Int} {n : Nat} {g : TG} {tb : TS} {D : Ends} {σ : St} {H : Hp} (Pv : Nat → St → Hp → Prop) (h0 : Pv 0 σ H)
    (hs : ∀ i σ H, i < n → Pv i σ H → g (.int (lo + i)) σ H fun σ2 H2 => tb { D with nx := Pv (i + 1), ct := Pv (i + 1), bk := D.nx } σ2 H2) (hd : ∀ σ H, Pv n σ H → D.nx σ H) :
    ∃ W : Nat → Nat → St → Hp → Prop, (∃ m, W 0 m σ H) ∧ ∀ i m σ H, W i m σ H →
      ((Itr lo n).stop i H ∧ D.nx σ H) ∨ ((Itr lo n).go i H ∧ ∃ N : St → Hp → Prop, (∀ σ' H', N σ' H' → ∃ m', m' < m ∧ W (i + 1) m' σ' H') ∧ ∀ x H', (Itr lo n).yld i H x H' → g x σ H' fun σ2 H2 => tb { D with nx := N, ct := N, bk := D.nx } σ2 H2) := by
  refine ⟨fun i m σ H => m = n - i ∧ i ≤ n ∧ Pv i σ H, ⟨n, by simp, Nat.zero_le _, h0⟩, ?_⟩
  rintro i m σ H ⟨rfl, hi, p⟩
  by_cases hlt : i < n
  · refine .inr ⟨hlt, Pv (i + 1), fun σ' H' p' => ⟨n - (i + 1), by omega, rfl, hlt, p'⟩, fun x H' y => ?_⟩
    obtain ⟨e, y⟩ := y
    subst e y
    exact hs i σ _ hlt p
  · have e : i = n := by omega
    subst e
    exact .inl ⟨Nat.le_refl _, hd σ H p⟩
end L2

namespace L2
open PySem PySem.Spec PyProof.Rows

abbrev R2 := V → V → Hp → VK → Prop
/-- a two-place operation on values: f is binaryOp op, inplaceOp op or compareOp op -/
def OpR (X : Cx) (f : Value → Value → Sem Value) (r : R2) : Prop :=
  ∀ (pins : List (Addr × Obj)) (s : Shared) (σ : St) (H : Hp) (x y : V) (v u : Value) (Q : VK), Inv X pins σ H s → RelV x v → RelV y u → r x y H Q →
    wpAny (model X.prog X.w) X.A (f v u) (EP X pins σ Q) X.xe s
/-- a one-place operation -/
def UnR (X : Cx) (f : Value → Sem Value) (r : V → Hp → VK → Prop) : Prop :=
  ∀ (pins : List (Addr × Obj)) (s : Shared) (σ : St) (H : Hp) (x : V) (v : Value) (Q : VK), Inv X pins σ H s → RelV x v → r x H Q →
    wpAny (model X.prog X.w) X.A (f v) (EP X pins σ Q) X.xe s
/-- a call of a value that is known (a builtin, a type) with values -/
def CallR (X : Cx) (f : Value) (r : List V → Hp → VK → Prop) : Prop :=
  ∀ (pins : List (Addr × Obj)) (s : Shared) (σ : St) (H : Hp) (xs : List V) (us : List Value) (Q : VK), Inv X pins σ H s → Vals xs us → r xs H Q →
    wpAny (model X.prog X.w) X.A (call f us) (EP X pins σ Q) X.xe s

def tOp (r : R2) (ta tb : TE) : TE := fun σ H Q => ta σ H fun x H1 => tb σ H1 fun y H2 => r x y H2 Q
def tUn (r : V → Hp → VK → Prop) (ta : TE) : TE := fun σ H Q => ta σ H fun x H1 => r x H1 Q
/-- ints in, under C, and a value out -/
def rI (C : Int → Int → Prop) (g : Int → Int → V) : R2 := fun x y H Q => ∃ i j, x = .int i ∧ y = .int j ∧ C i j ∧ Q (g i j) H
def rI0 (g : Int → Int → V) : R2 := fun x y H Q => ∃ i j, x = .int i ∧ y = .int j ∧ Q (g i j) H
def rU (g : Int → V) : V → Hp → VK → Prop := fun x H Q => ∃ i, x = .int i ∧ Q (g i) H

section
variable {X : Cx} {a b c : Expr} {ta tb tc : TE} {pos : Pos}

theorem binT (ha : PE X a ta) (hb : PE X b tb) {pins : List (Addr × Obj)} {s : Shared} {σ : St} {H : Hp} {R : V → V → Hp → Prop} (I : Inv X pins σ H s)
    (h : ta σ H fun x H1 => tb σ H1 fun y H2 => R x y H2) {Q : Value → Shared → Prop} {f : Value → Value → Sem Value}
    (hf : ∀ v u s2 x y H2, Inv X pins σ H2 s2 → RelV x v → RelV y u → R x y H2 → wpAny (model X.prog X.w) X.A (f v u) Q X.xe s2) :
    wpAny (model X.prog X.w) X.A (eval a X.env) (fun v s₁ => wpAny (model X.prog X.w) X.A (eval b X.env) (fun u s₂ => wpAny (model X.prog X.w) X.A (f v u) Q X.xe s₂) X.xe s₁) X.xe s := by
  refine thn (ha pins s σ H _ I h) fun v s1 ⟨x, H1, I1, r1, q1⟩ => ?_
  refine thn (hb pins s1 σ H1 _ I1 q1) fun u s2 ⟨y, H2, I2, r2, q2⟩ => ?_
  exact hf v u s2 x y H2 I2 r1 r2 q2

theorem pe_op {op : Operator} {r : R2} (ho : OpR X (binaryOp op) r) (ha : PE X a ta) (hb : PE X b tb) : PE X (.BinOp a op b pos) (tOp r ta tb) := by
  intro pins s σ H Q I h
  exact wpAny_BinOp (binT ha hb I h fun v u s2 x y H2 I2 rx ry q => ho pins s2 σ H2 x y v u Q I2 rx ry q)
theorem pe_un {op : UnaryOp} {r : V → Hp → VK → Prop} (ho : UnR X (unaryOp op) r) (ha : PE X a ta) : PE X (.UnaryOp op a pos) (tUn r ta) := by
  intro pins s σ H Q I h
  exact UnaryOp_ (thn (ha pins s σ H _ I h) fun v s1 ⟨x, H1, I1, r1, q1⟩ => ho pins s1 σ H1 x v Q I1 r1 q1)

/-! ### ints -/
theorem opI {f : Value → Value → Sem Value} {C : Int → Int → Prop} {g : Int → Int → Int}
    (rule : ∀ (i j : Int) (t u : Tok) (s : Shared) (Q : Value → Shared → Prop) (E : Value → Shared → Prop), C i j → Q (.int (g i j) s.toks) { s with toks := s.toks + 1 } → wpAny (model X.prog X.w) X.A (f (.int i t) (.int j u)) Q E s) :
    OpR X f (rI C fun i j => .int (g i j)) := by
  intro pins s σ H x y v u Q I rx ry h
  obtain ⟨i, j, rfl, rfl, hc, q⟩ := h
  obtain ⟨t, rfl⟩ := rx
  obtain ⟨t', rfl⟩ := ry
  exact rule i j t t' s _ _ hc ⟨.int (g i j), H, I.tok _, ⟨_, rfl⟩, q⟩
theorem opI0 {f : Value → Value → Sem Value} {g : Int → Int → Int}
    (rule : ∀ (i j : Int) (t u : Tok) (s : Shared) (Q : Value → Shared → Prop) (E : Value → Shared → Prop), Q (.int (g i j) s.toks) { s with toks := s.toks + 1 } → wpAny (model X.prog X.w) X.A (f (.int i t) (.int j u)) Q E s) :
    OpR X f (rI0 fun i j => .int (g i j)) := by
  intro pins s σ H x y v u Q I rx ry h
  obtain ⟨i, j, rfl, rfl, q⟩ := h
  obtain ⟨t, rfl⟩ := rx
  obtain ⟨t', rfl⟩ := ry
  exact rule i j t t' s _ _ ⟨.int (g i j), H, I.tok _, ⟨_, rfl⟩, q⟩
theorem opB0 {f : Value → Value → Sem Value} {g : Int → Int → Bool}
    (rule : ∀ (i j : Int) (t u : Tok) (s : Shared) (Q : Value → Shared → Prop) (E : Value → Shared → Prop), Q (.bool (g i j)) s → wpAny (model X.prog X.w) X.A (f (.int i t) (.int j u)) Q E s) :
    OpR X f (rI0 fun i j => .bl (g i j)) := by
  intro pins s σ H x y v u Q I rx ry h
  obtain ⟨i, j, rfl, rfl, q⟩ := h
  obtain ⟨t, rfl⟩ := rx
  obtain ⟨t', rfl⟩ := ry
  exact rule i j t t' s _ _ ⟨.bl (g i j), H, I, rfl, q⟩

def CMul (i j : Int) : Prop := (-(2 ^ 64) < i ∧ i < 2 ^ 64) ∨ (-(2 ^ 64) < j ∧ j < 2 ^ 64)
theorem CMul.ok {i j : Int} (h : CMul i j) : IntMulOk i j := by
  rcases h with ⟨h1, h2⟩ | ⟨h1, h2⟩
  · exact .of_left (intBits_le_64 h1 h2)
  · exact .of_right (intBits_le_64 h1 h2)

theorem op_add : OpR X (binaryOp .Add) (rI0 fun i j => .int (i + j)) := opI0 fun _ _ _ _ _ _ _ q => add_int q
theorem op_sub : OpR X (binaryOp .Sub) (rI0 fun i j => .int (i - j)) := opI0 fun _ _ _ _ _ _ _ q => sub_int q
theorem op_mul : OpR X (binaryOp .Mult) (rI CMul fun i j => .int (i * j)) := opI fun _ _ _ _ _ _ _ hc q => mul_int q hc.ok
/-- % by a positive divisor of any size -/
theorem op_mod : OpR X (binaryOp .Mod) (rI (fun _ j => 0 < j) fun i j => .int (i % j)) := opI fun i j _ _ _ _ _ hc q => by
  have h1 : (0 : Int) < j := hc
  exact mod_int' (by omega) (by rw [Int.fmod_eq_emod_of_nonneg i (by omega)]; exact q)


theorem unI {f : Value → Sem Value} {g : Int → Int}
    (rule : ∀ (i : Int) (t : Tok) (s : Shared) (Q : Value → Shared → Prop) (E : Value → Shared → Prop), Q (.int (g i) s.toks) { s with toks := s.toks + 1 } → wpAny (model X.prog X.w) X.A (f (.int i t)) Q E s) :
    UnR X f (rU fun i => .int (g i)) := by
  intro pins s σ H x v Q I rx h
  obtain ⟨i, rfl, q⟩ := h
  obtain ⟨t, rfl⟩ := rx
  exact rule i t s _ _ ⟨.int (g i), H, I.tok _, ⟨_, rfl⟩, q⟩
theorem un_neg : UnR X (unaryOp .USub) (rU fun i => .int (-i)) := unI fun _ _ _ _ _ q => neg_int q

/-! ### bools among ints: n += (a < b) -/
end

/-! ### comparisons -/
/-- the scalars that == tells apart as data does -/
def scal : V → V → Bool
  | .non, .non => true | .non, .int _ => true | .int _, .non => true | .non, .bl _ => true | .bl _, .non => true | .non, .str _ => true | .str _, .non => true
  | .int _, .int _ => true | .bl _, .bl _ => true | .str _, .str _ => true | .byt _, .byt _ => true
  | .int _, .str _ => true | .str _, .int _ => true | .bl _, .str _ => true | .str _, .bl _ => true
  | _, _ => false
def rEq : R2 := fun x y H Q => scal x y = true ∧ Q (.bl (decide (x = y))) H
def rNe : R2 := fun x y H Q => scal x y = true ∧ Q (.bl (!decide (x = y))) H

theorem dec_int {i j : Int} : decide (V.int i = V.int j) = (i == j) := by
  rw [Bool.eq_iff_iff]
  simp
theorem dec_bl {i j : Bool} : decide (V.bl i = V.bl j) = (i == j) := by
  rw [Bool.eq_iff_iff]
  simp
theorem dec_str {i j : Str} : decide (V.str i = V.str j) = (i == j) := by
  rw [Bool.eq_iff_iff]
  simp
theorem dec_byt {i j : Array UInt8} : decide (V.byt i = V.byt j) = (i.toList == j.toList) := by
  rw [Bool.eq_iff_iff]
  cases i
  cases j
  simp

section
variable {X : Cx} {a b c : Expr} {ta tb tc : TE} {pos : Pos}
theorem fin_bl {pins : List (Addr × Obj)} {σ : St} {H : Hp} {s : Shared} {Q : VK} {k k' : Bool} (I : Inv X pins σ H s) (q : Q (.bl k) H) (e : k = k') : EP X pins σ Q (.bool k') s := by
  subst e
  exact ⟨.bl k, H, I, rfl, q⟩
theorem op_eq : OpR X (compareOp .Eq) rEq := by
  intro pins s σ H x y v u Q I rx ry h
  obtain ⟨hs, q⟩ := h
  cases x with
  | non =>
    cases rx
    cases y with
    | non => cases ry; exact PySem.EqNone.eq_none_none (fin_bl I q (by simp))
    | bl j => cases ry; exact PySem.EqNone.eq_none_bool (fin_bl I q (by simp))
    | int j => obtain ⟨t', rfl⟩ := ry; exact PySem.EqNone.eq_none_int (fin_bl I q (by simp))
    | str j => obtain ⟨t', rfl⟩ := ry; exact PySem.EqNone.eq_none_str (fin_bl I q (by simp))
    | _ => exact absurd (show false = true from hs) Bool.false_ne_true
  | bl i =>
    cases rx
    cases y with
    | non => cases ry; exact PySem.EqNone.eq_bool_none (fin_bl I q (by simp))
    | bl j => cases ry; exact eq_bool (fin_bl I q dec_bl)
    | str j => obtain ⟨t', rfl⟩ := ry; exact PySem.EqMixed.eq_bool_str (fin_bl I q (by simp))
    | _ => exact absurd (show false = true from hs) Bool.false_ne_true
  | int i =>
    obtain ⟨t, rfl⟩ := rx
    cases y with
    | non => cases ry; exact PySem.EqNone.eq_int_none (fin_bl I q (by simp))
    | int j => obtain ⟨t', rfl⟩ := ry; exact eq_int (fin_bl I q dec_int)
    | str j => obtain ⟨t', rfl⟩ := ry; exact PySem.EqMixed.eq_int_str (fin_bl I q (by simp))
    | _ => exact absurd (show false = true from hs) Bool.false_ne_true
  | str i =>
    obtain ⟨t, rfl⟩ := rx
    cases y with
    | non => cases ry; exact PySem.EqNone.eq_str_none (fin_bl I q (by simp))
    | bl j => cases ry; exact PySem.EqMixed.eq_str_bool (fin_bl I q (by simp))
    | int j => obtain ⟨t', rfl⟩ := ry; exact PySem.EqMixed.eq_str_int (fin_bl I q (by simp))
    | str j => obtain ⟨t', rfl⟩ := ry; exact eq_str (fin_bl I q dec_str)
    | _ => exact absurd (show false = true from hs) Bool.false_ne_true
  | byt i =>
    obtain ⟨t, rfl⟩ := rx
    cases y with
    | byt j => obtain ⟨t', rfl⟩ := ry; exact PySem.W.eq_bytes (fin_bl I q dec_byt)
    | _ => exact absurd (show false = true from hs) Bool.false_ne_true
  | _ => cases y <;> exact absurd (show false = true from hs) Bool.false_ne_true
theorem op_ne : OpR X (compareOp .NotEq) rNe := by
  intro pins s σ H x y v u Q I rx ry h
  obtain ⟨hs, q⟩ := h
  cases x with
  | non =>
    cases rx
    cases y with
    | non => cases ry; exact PySem.EqNone.ne_none_none (fin_bl I q (by simp))
    | bl j => cases ry; exact PySem.EqNone.ne_none_bool (fin_bl I q (by simp))
    | int j => obtain ⟨t', rfl⟩ := ry; exact PySem.EqNone.ne_none_int (fin_bl I q (by simp))
    | str j => obtain ⟨t', rfl⟩ := ry; exact PySem.EqNone.ne_none_str (fin_bl I q (by simp))
    | _ => exact absurd (show false = true from hs) Bool.false_ne_true
  | bl i =>
    cases rx
    cases y with
    | non => cases ry; exact PySem.EqNone.ne_bool_none (fin_bl I q (by simp))
    | bl j => cases ry; exact ne_bool (fin_bl I q (congrArg not dec_bl))
    | str j => obtain ⟨t', rfl⟩ := ry; exact PySem.EqMixed.ne_bool_str (fin_bl I q (by simp))
    | _ => exact absurd (show false = true from hs) Bool.false_ne_true
  | int i =>
    obtain ⟨t, rfl⟩ := rx
    cases y with
    | non => cases ry; exact PySem.EqNone.ne_int_none (fin_bl I q (by simp))
    | int j => obtain ⟨t', rfl⟩ := ry; exact ne_int (fin_bl I q (congrArg not dec_int))
    | str j => obtain ⟨t', rfl⟩ := ry; exact PySem.EqMixed.ne_int_str (fin_bl I q (by simp))
    | _ => exact absurd (show false = true from hs) Bool.false_ne_true
  | str i =>
    obtain ⟨t, rfl⟩ := rx
    cases y with
    | non => cases ry; exact PySem.EqNone.ne_str_none (fin_bl I q (by simp))
    | bl j => cases ry; exact PySem.EqMixed.ne_str_bool (fin_bl I q (by simp))
    | int j => obtain ⟨t', rfl⟩ := ry; exact PySem.EqMixed.ne_str_int (fin_bl I q (by simp))
    | str j => obtain ⟨t', rfl⟩ := ry; exact ne_str (fin_bl I q (congrArg not dec_str))
    | _ => exact absurd (show false = true from hs) Bool.false_ne_true
  | byt i =>
    obtain ⟨t, rfl⟩ := rx
    cases y with
    | byt j => obtain ⟨t', rfl⟩ := ry; exact PySem.W.ne_bytes (fin_bl I q (congrArg not dec_byt))
    | _ => exact absurd (show false = true from hs) Bool.false_ne_true
  | _ => cases y <;> exact absurd (show false = true from hs) Bool.false_ne_true

theorem op_lt : OpR X (compareOp .Lt) (rI0 fun i j => .bl (decide (i < j))) := opB0 fun _ _ _ _ _ _ _ q => lt_int q
theorem op_le : OpR X (compareOp .LtE) (rI0 fun i j => .bl (decide (i ≤ j))) := opB0 fun _ _ _ _ _ _ _ q => le_int q
theorem op_gt : OpR X (compareOp .Gt) (rI0 fun i j => .bl (decide (j < i))) := opB0 fun _ _ _ _ _ _ _ q => gt_int q
theorem op_ge : OpR X (compareOp .GtE) (rI0 fun i j => .bl (decide (j ≤ i))) := opB0 fun _ _ _ _ _ _ _ q => ge_int q




theorem nomark (b : Expr) {op : CmpOp} (h : op ≠ .In := by decide) (h2 : op ≠ .NotIn := by decide) : behindInMarks op b = false := by
  have e1 : (op == CmpOp.In) = false := by cases op <;> first | rfl | exact absurd rfl h
  have e2 : (op == CmpOp.NotIn) = false := by cases op <;> first | rfl | exact absurd rfl h2
  cases b <;> simp [behindInMarks, e1, e2]
/-- a comparison as a value; hm: nomark b, or (for in, not in) by with_unfolding_all rfl -/
theorem pe_cmpR {op : CmpOp} {r : R2} (ho : OpR X (compareOp op) r) (ha : PE X a ta) (hb : PE X b tb) (hm : behindInMarks op b = false) : PE X (.Compare a [op] [b] pos) (tOp r ta tb) := by
  intro pins s σ H Q I h
  exact wpAny_Compare1 (binT ha hb I h fun v u s2 x y H2 I2 rx ry q => ho pins s2 σ H2 x y v u Q I2 rx ry q) hm
/-- a reading of a value as a test -/
def tTest (t : TE) : TT := fun σ H Q => t σ H fun x H' => ∃ k, x = .bl k ∧ Q k H'
theorem pt_cmpR {op : CmpOp} {r : R2} (ho : OpR X (compareOp op) r) (ha : PE X a ta) (hb : PE X b tb) (hm : behindInMarks op b = false) : PT X (.Compare a [op] [b] pos) (tTest (tOp r ta tb)) := by
  intro pins s σ H Q I h
  refine wpAny_isTrue_Compare1 (thn (ha pins s σ H _ I h) fun v s1 ⟨x, H1, I1, r1, q1⟩ => thn (hb pins s1 σ H1 _ I1 q1) fun u s2 ⟨y, H2, I2, r2, q2⟩ =>
    thn (ho pins s2 σ H2 x y v u _ I2 r1 r2 q2) fun c s3 ⟨z, H3, I3, r3, k, e, q3⟩ => ?_) hm
  subst e
  cases r3
  exact wpAny_truthy_bool ⟨H3, I3, q3⟩
/-- a op1 b op2 c -/
def tChain (r r' : R2) (ta tb tc : TE) : TE := fun σ H Q => ta σ H fun x H1 => tb σ H1 fun y H2 => r x y H2 fun z H3 => ∃ k, z = .bl k ∧
  (if k = true then tc σ H3 fun w' H4 => r' y w' H4 Q else Q (.bl false) H3)
theorem pe_chain {op op' : CmpOp} {r r' : R2} (ho : OpR X (compareOp op) r) (ho' : OpR X (compareOp op') r') (ha : PE X a ta) (hb : PE X b tb) (hc : PE X c tc)
    (hm : lastMarks [op, op'] [b, c] = false := by with_unfolding_all rfl) : PE X (.Compare a [op, op'] [b, c] pos) (tChain r r' ta tb tc) := by
  intro pins s σ H Q I h
  refine Compare_chain (thn (ha pins s σ H _ I h) fun v s1 ⟨x, H1, I1, r1, q1⟩ => chain_link (thn (hb pins s1 σ H1 _ I1 q1) fun u s2 ⟨y, H2, I2, r2, q2⟩ =>
    thn (ho pins s2 σ H2 x y v u _ I2 r1 r2 q2) fun d s3 ⟨z, H3, I3, r3, k, e, q3⟩ => ?_)) hm
  subst e
  cases r3
  refine wpAny_truthy_bool ?_
  cases k with
  | false => exact ite_ff ⟨.bl false, H3, I3, rfl, q3⟩
  | true => exact ite_tt (chain_last (thn (hc pins s3 σ H3 _ I3 q3) fun w' s4 ⟨z', H4, I4, r4, q4⟩ => ho' pins s4 σ H4 y z' u w' Q I4 r2 r4 q4))
theorem pt_chain {op op' : CmpOp} {r r' : R2} (ho : OpR X (compareOp op) r) (ho' : OpR X (compareOp op') r') (ha : PE X a ta) (hb : PE X b tb) (hc : PE X c tc)
    (hm : lastMarks [op, op'] [b, c] = false := by with_unfolding_all rfl) : PT X (.Compare a [op, op'] [b, c] pos) (tTest (tChain r r' ta tb tc)) := by
  intro pins s σ H Q I h
  refine isTrue_chain (thn (ha pins s σ H _ I h) fun v s1 ⟨x, H1, I1, r1, q1⟩ => test_link (thn (hb pins s1 σ H1 _ I1 q1) fun u s2 ⟨y, H2, I2, r2, q2⟩ =>
    thn (ho pins s2 σ H2 x y v u _ I2 r1 r2 q2) fun d s3 ⟨z, H3, I3, r3, k, e, q3⟩ => ?_)) hm
  subst e
  cases r3
  refine wpAny_truthy_bool ?_
  cases k with
  | false =>
    obtain ⟨k', e', q'⟩ := q3
    cases e'
    exact ite_ff ⟨H3, I3, q'⟩
  | true =>
    refine ite_tt (test_last (thn (hc pins s3 σ H3 _ I3 q3) fun w' s4 ⟨z', H4, I4, r4, q4⟩ => thn (ho' pins s4 σ H4 y z' u w' _ I4 r2 r4 q4) fun d' s5 ⟨z2, H5, I5, r5, k2, e2, q5⟩ => ?_))
    subst e2
    cases r5
    exact wpAny_truthy_bool ⟨H5, I5, q5⟩

/-! ### truth -/
theorem line63 : (sizeLine : Nat) < 2 ^ 63 := by rw [sizeLine_eq]; decide

/-! ### strs and bytes -/


/-! ### scalar builtins, by CallR -/
theorem vals1 {x : V} {us : List Value} (r : Vals [x] us) : ∃ u, us = [u] ∧ RelV x u := by
  cases r with
  | cons r1 r2 => cases r2; exact ⟨_, rfl, r1⟩
theorem vals2 {x y : V} {us : List Value} (r : Vals [x, y] us) : ∃ u w', us = [u, w'] ∧ RelV x u ∧ RelV y w' := by
  cases r with
  | cons r1 r2 =>
    cases r2 with
    | cons r3 r4 => cases r4; exact ⟨_, _, rfl, r1, r3⟩
theorem call_min2 (hc : X.calm = true) : CallR X (.builtin "min") (fun xs H Q => ∃ i j, xs = [.int i, .int j] ∧ Q (.int (if j < i then j else i)) H) := by
  intro pins s σ H xs us Q I r h
  obtain ⟨i, j, rfl, q⟩ := h
  obtain ⟨u, w', rfl, ⟨t, rfl⟩, ⟨t', rfl⟩⟩ := vals2 r
  refine min_two_ints (I.ok.hd hc) fun h' tk k => ⟨_, H, I.kept k, ?_, q⟩
  by_cases hj : j < i
  · rw [if_pos hj, if_pos hj]; exact ⟨_, rfl⟩
  · rw [if_neg hj, if_neg hj]; exact ⟨_, rfl⟩
end
end L2

namespace L2
open PySem PySem.Spec PyProof.Rows

/-! ### an instance, its attributes a map -/
structure ObjM (h : Heap) (x dx C : Addr) (mA : Str → Option Value) : Prop where
  obj : h.get? x = some (PySem.W.instObj C dx)
  ns : h.Ns1 dx mA
  ne : dx ≠ x

theorem lookIn_ns {h : Heap} {dx : Addr} {mA : Str → Option Value} (n : h.Ns1 dx mA) : ∃ od, h.get? dx = some od ∧ ∀ name, PySem.W.lookIn name od = some (mA name) := by
  obtain ⟨o, es, ep, ho, hd, hk, _, hm⟩ := n
  refine ⟨o, ho, fun name => ?_⟩
  have e := hm name
  unfold nsFind findBy at e
  rw [← Array.find?_toList] at e
  unfold PySem.W.lookIn
  rw [hd]
  dsimp only
  split
  · rename_i y q
    rw [q] at e
    exact congrArg some e
  · rename_i q
    rw [q] at e
    have a : es.toList.any (·.refKey) = false := by
      rw [List.any_eq_false]
      intro y hy
      obtain ⟨z, t, hkey⟩ := hk y (Array.mem_toList_iff.mp hy)
      simp [DictEntry.refKey, hkey]
    have a' : ¬ es.toList.any (·.refKey) = true := by rw [a]; exact Bool.false_ne_true
    rw [if_neg a']
    exact congrArg some e

theorem ObjM.look {h : Heap} {x dx C : Addr} {mA : Str → Option Value} (I : ObjM h x dx C mA) : ∃ od, PySem.W.InstAt h x (PySem.W.instObj C dx) C (some od) ∧ ∀ name, PySem.W.lookIn name od = some (mA name) :=
  let ⟨od, ho, hl⟩ := lookIn_ns I.ns
  ⟨od, ⟨I.obj, rfl, rfl, ho⟩, hl⟩

section
variable {prog : Program} {w : World} {A : Around} {E : Value → Shared → Prop} {s : Shared} {K : PySem.W.Frag} {x dx C f : Addr} {mA : Str → Option Value} {name : Str} {v : Value}

theorem get_map {expr : Bool} {Q : Value → Shared → Prop} (X : K.In s.heap) (I : ObjM s.heap x dx C mA) (hg : PySem.W.plainGet K C name = true) (hh : PySem.W.hasDictIn K C = true)
    (ha : PySem.W.findIn K (.ref C) name = some none) (hv : mA name = some v) (hv' : PySem.W.handedIn v = true) (h : Q v { s with toks := s.toks + 1 }) :
    wpAny (model prog w) A (getAttr (.ref x) name expr) Q E s := by
  obtain ⟨od, J, hl⟩ := I.look
  exact PySem.W.get_value X J (PySem.W.plainGet_of hg).1 (PySem.W.findObj_own hh ha rfl (by rw [hl, hv])) hv' h


theorem get_meth {pl : Sem Bool} {Q : Value × List Value → Shared → Prop} (X : K.In s.heap) (I : ObjM s.heap x dx C mA) (hg : PySem.W.plainGet K C name = true)
    (hf : PySem.W.findIn K (.ref C) name = some (some (.ref f))) (ht : PySem.W.isFn K (.ref f) = true) (hv : mA name = none) (h : Q (.ref f, [.ref x]) s) :
    wpAny (model prog w) A (getMethod (.ref x) name pl) Q E s := by
  obtain ⟨od, J, hl⟩ := I.look
  exact PySem.W.method_fn X J (PySem.W.plainGet_of hg).1 (PySem.W.plainGet_of hg).2 hf (beq_iff_eq.mp ht) (by show (PySem.W.lookIn name od).map (·.isSome) = some false; rw [hl, hv]; rfl) h

theorem set_map {ns : List Str} {Q : Unit → Shared → Prop} (X : K.In s.heap) (I : ObjM s.heap x dx C mA)
    (hs : PySem.W.findIn K (.ref C) "__setattr__" = some (some (.builtin "object.__setattr__"))) (hp : PySem.W.plainOver K C = true) (ht : PySem.W.takerIn K C name = some none) (hh : PySem.W.hasDictIn K C = true)
    (hw : PySem.Within mA ns) (hsz : ns.length ≤ sizeLine)
    (h : ∀ h', ObjM h' x dx C (fun y => if y = name then some v else mA y) → Heap.SameBut dx s.heap h' → Q () { s with heap := h', toks := s.toks + 2 }) :
    wpAny (model prog w) A (setAttr (.ref x) name v) Q E s := by
  obtain ⟨od, J, hl⟩ := I.look
  refine PySem.W.set_plain X J hs (PySem.W.osa_open (s := { s with toks := s.toks + 1 }) (r := none) X J hp ht fun b => ?_)
  obtain ⟨cd, hc, hd'⟩ := PySem.W.any_some hh
  have hx : s.heap.get? x = some ⟨.ref C, some dx, .plain, #[]⟩ := I.obj
  refine wpAny_bind (wpAny_pure (wpAny_bind (wpAny_bind (wpAny_loadPart hx (wpAny_bind (PySem.W.Looks.here (s := { s with toks := s.toks + 1 }) (PySem.W.looks_clsIn X hc) ?_))))))
  rw [hd']
  refine wpAny_pure (a := some dx) (wpAny_bind (wpAny_pure (wpAny_bind ?_)))
  refine wpAny_nsSet1 (s := { s with toks := s.toks + 1 }) I.ns fun h' hn2 hs2 => ?_
  obtain ⟨oD, esD, epD, hoD, hdD, hcD⟩ := hn2.count (PySem.Within.cons name v hw)
  refine wpAny_bind (wpAny_lookBehind hoD (by rw [hdD]; exact pastItsLine_dict (Nat.le_trans hcD (by rw [List.length_cons]; omega))) ?_)
  exact wpAny_pure (h _ ⟨(hs2.2 _ (Ne.symm I.ne)).trans I.obj, hn2, I.ne⟩ hs2)

/-- C(..): the dict at the heap's end, the instance behind it; then its __init__ -/
theorem make_map {R : Result → Shared → Prop} {vs : List Value} {kw : List (Str × Value)} (X : K.In s.heap) (hm : PySem.W.makesIn K C = true)
    (hi : PySem.W.findIn K (.ref C) "__init__" = some (some (.ref f))) (hf : PySem.W.typeIn K (.ref f) = some (.type "function"))
    (h : codeAny (model prog w) (A.under (.builtin "type.__call__" ⟨.ref C :: vs, kw⟩)) (.call (.ref f) ⟨.ref (s.heap.objs.size + 1) :: vs, kw⟩) (PySem.W.InitBack (s.heap.objs.size + 1) R)
      { s with heap := (s.heap.push PySem.W.emptyDict).push (PySem.W.instObj C s.heap.objs.size) }) :
    codeAny (model prog w) A (.call (.ref C) ⟨vs, kw⟩) R s := by
  obtain ⟨hh, g, d, t, os⟩ := s
  exact PySem.W.make_core (PySem.W.makes_of X hm) (PySem.W.looks_findIn X hi) (fun self => PySem.W.bind_fn X self hf) (.inl rfl) h
end

/-! ### the attributes as a list of pairs -/
def putF (f : Str) (v : V) : List (Str × V) → List (Str × V)
  | [] => [(f, v)]
  | (g, x) :: r => if g = f then (g, v) :: r else (g, x) :: putF f v r
theorem lookup_putF (f g : Str) (v : V) : ∀ fs : List (Str × V), (putF f v fs).lookup g = if g = f then some v else fs.lookup g
  | [] => by
    show List.lookup g [(f, v)] = _
    by_cases h : g = f
    · have hb : (g == f) = true := beq_iff_eq.mpr h
      simp only [List.lookup, hb, if_pos h]
    · have hb : (g == f) = false := beq_eq_false_iff_ne.mpr h
      simp only [List.lookup, hb, if_neg h]
  | (k, x) :: r => by
    have ih := lookup_putF f g v r
    rw [show putF f v ((k, x) :: r) = (if k = f then (k, v) :: r else (k, x) :: putF f v r) from rfl]
    by_cases hk : k = f
    · rw [if_pos hk]
      by_cases h : g = k
      · have hb : (g == k) = true := beq_iff_eq.mpr h
        simp only [List.lookup, hb, if_pos (h.trans hk)]
      · have hb : (g == k) = false := beq_eq_false_iff_ne.mpr h
        simp only [List.lookup, hb, if_neg (fun e : g = f => h (e.trans hk.symm))]
    · rw [if_neg hk]
      by_cases h : g = k
      · have hb : (g == k) = true := beq_iff_eq.mpr h
        simp only [List.lookup, hb, if_neg (fun e : g = f => hk (h.symm.trans e))]
      · have hb : (g == k) = false := beq_eq_false_iff_ne.mpr h
        simp only [List.lookup, hb]
        exact ih
theorem keys_putF (f : Str) (v : V) : ∀ fs : List (Str × V), f ∈ (putF f v fs).map (·.1) ∧ ∀ g, g ∈ fs.map (·.1) → g ∈ (putF f v fs).map (·.1)
  | [] => ⟨by simp [putF], fun g h => by simp at h⟩
  | (k, x) :: r => by
    obtain ⟨i1, i2⟩ := keys_putF f v r
    rw [show putF f v ((k, x) :: r) = (if k = f then (k, v) :: r else (k, x) :: putF f v r) from rfl]
    by_cases hk : k = f
    · rw [if_pos hk]
      subst hk
      exact ⟨by simp, fun g h => by simpa using h⟩
    · rw [if_neg hk]
      refine ⟨?_, fun g h => ?_⟩
      · rw [List.map_cons]
        exact List.mem_cons_of_mem _ i1
      · rw [List.map_cons] at h ⊢
        rcases List.mem_cons.mp h with e | e
        · exact List.mem_cons.mpr (.inl e)
        · exact List.mem_cons_of_mem _ (i2 g e)
theorem length_putF (f : Str) (v : V) : ∀ fs : List (Str × V), (putF f v fs).length ≤ fs.length + 1
  | [] => by simp [putF]
  | (k, x) :: r => by
    have ih := length_putF f v r
    rw [show putF f v ((k, x) :: r) = (if k = f then (k, v) :: r else (k, x) :: putF f v r) from rfl]
    by_cases hk : k = f
    · rw [if_pos hk, List.length_cons, List.length_cons]; omega
    · rw [if_neg hk, List.length_cons, List.length_cons]; omega

theorem RelO.some_of {v : V} {o : Option Value} (r : RelO (some v) o) : ∃ u, o = some u ∧ RelV v u := by
  cases o with
  | none => exact (show False from r).elim
  | some u => exact ⟨u, rfl, r⟩
theorem RelO.none_of {o : Option Value} (r : RelO none o) : o = none := by
  cases o with
  | none => rfl
  | some u => exact (show False from r).elim
theorem handed_of {v : V} {u : Value} (r : RelV v u) : PySem.W.handedIn u = true := by
  cases v with
  | non => cases (show u = Value.none from r); rfl
  | bl b => cases (show u = Value.bool b from r); rfl
  | int i => obtain ⟨t, e⟩ := (show ∃ t, u = Value.int i t from r); cases e; rfl
  | str x => obtain ⟨t, e⟩ := (show ∃ t, u = Value.str x t from r); cases e; rfl
  | byt b => obtain ⟨t, e⟩ := (show ∃ t, u = Value.bytes b t from r); cases e; rfl
  | flt b => obtain ⟨t, e⟩ := (show ∃ t, u = Value.float b t from r); cases e; rfl
  | ref a => cases (show u = Value.ref a from r); rfl
  | ty n => cases (show u = Value.type n from r); rfl

section
variable {P : Program} {w : World} {H H' : Hp} {h h' : Heap} {a C dx : Addr} {fs fs' : List (Str × V)}
theorem ins_get (hok : HOk P w H h) (e : H a = some (.ins C dx fs)) : ∃ mA, ObjM h a dx C mA ∧ (∀ f, RelO (fs.lookup f) (mA f)) ∧ PySem.Within mA (fs.map (·.1)) ∧ fs.length ≤ 1000 ∧ H dx = some (.own a) := by
  obtain ⟨d, z, ne, ob, mA, n, r, q⟩ := (show ObjOk P w H h a (.ins C dx fs) from hok a _ e)
  exact ⟨mA, ⟨ob, n, ne⟩, r, q, z, d⟩
end

/-! ### what of the text a class must have -/
structure Cls (K : PySem.W.Frag) (C : Addr) : Prop where
  pg : PySem.W.plainGet K C Str.empty = true
  hd : PySem.W.hasDictIn K C = true
  po : PySem.W.plainOver K C = true
  sa : PySem.W.findIn K (.ref C) "__setattr__" = some (some (.builtin "object.__setattr__"))
theorem Cls.get {K : PySem.W.Frag} {C : Addr} (c : Cls K C) (f : Str) : PySem.W.plainGet K C f = true := c.pg
/-- no class of it has the name -/
def NoAttr (K : PySem.W.Frag) (C : Addr) (f : Str) : Prop := PySem.W.findIn K (.ref C) f = some none
theorem NoAttr.taker {K : PySem.W.Frag} {C : Addr} {f : Str} (n : NoAttr K C f) : PySem.W.takerIn K C f = some none := by
  unfold PySem.W.takerIn
  rw [show PySem.W.findIn K (.ref C) f = some none from n]
  rfl
/-- a constant of the class -/
structure Con (K : PySem.W.Frag) (C : Addr) (f : Str) (v : V) (u : Value) : Prop where
  at_ : PySem.W.findIn K (.ref C) f = some (some u)
  rel : RelV v u
  get : PySem.W.specialIn K u "__get__" = some none
  cp : PySem.W.copiedNames.contains f = false
/-- a method: a plain def of the class or of one above it -/
structure Meth (K : PySem.W.Frag) (C : Addr) (m : Str) (f : Addr) : Prop where
  at_ : PySem.W.findIn K (.ref C) m = some (some (.ref f))
  fn : PySem.W.isFn K (.ref f) = true
  kp : PySem.W.keepIn K (.ref f) = true

section
variable {X : Cx} {pins : List (Addr × Obj)} {σ : St} {H : Hp} {s : Shared} {a C dx : Addr} {fs : List (Str × V)} {f : Str} {v : V} {A : Around} {E : Value → Shared → Prop}

theorem getattr_ok {b : Bool} {Q : Value → Shared → Prop} (I : Inv X pins σ H s) (e : H a = some (.ins C dx fs)) (c : Cls X.K C) (n : NoAttr X.K C f) (l : fs.lookup f = some v)
    (h : ∀ u s', Inv X pins σ H s' → RelV v u → Q u s') : wpAny (model X.prog X.w) A (getAttr (.ref a) f b) Q E s := by
  obtain ⟨mA, O, r, _, _, _⟩ := ins_get I.hok e
  obtain ⟨u, hu, ru⟩ := RelO.some_of (v := v) (o := mA f) (by rw [← l]; exact r f)
  exact get_map I.kIn O (c.get f) c.hd n hu (handed_of ru) (h u _ (I.tok _) ru)


theorem getmeth_ok {m : Str} {g : Addr} {pl : Sem Bool} {Q : Value × List Value → Shared → Prop} (I : Inv X pins σ H s) (e : H a = some (.ins C dx fs)) (c : Cls X.K C) (k : Meth X.K C m g) (l : fs.lookup m = none)
    (h : Q (.ref g, [.ref a]) s) : wpAny (model X.prog X.w) A (getMethod (.ref a) m pl) Q E s := by
  obtain ⟨mA, O, r, _, _, _⟩ := ins_get I.hok e
  have hn : mA m = none := RelO.none_of (by rw [← l]; exact r m)
  exact get_meth I.kIn O (c.get m) k.at_ k.fn hn h

theorem setattr_ok {y : V} {u : Value} {Q : Unit → Shared → Prop} (I : Inv X pins σ H s) (e : H a = some (.ins C dx fs)) (c : Cls X.K C) (n : NoAttr X.K C f) (hl : fs.length < 1000) (ry : RelV y u)
    (h : ∀ s', Inv X pins σ (upd H a (.ins C dx (putF f y fs))) s' → Q () s') : wpAny (model X.prog X.w) A (setAttr (.ref a) f u) Q E s := by
  obtain ⟨mA, O, r, wi, _, ho⟩ := ins_get I.hok e
  have hz : (fs.map (·.1)).length ≤ sizeLine := by rw [List.length_map, sizeLine_eq]; omega
  refine set_map I.kIn O c.sa c.po n.taker c.hd wi hz fun h' O' sb => h _ ?_
  have hd : ∃ o, h'.get? dx = some o := let ⟨o, _, _, e', _⟩ := O'.ns; ⟨o, e'⟩
  refine I.write (x := a) (e := dx) (by rw [e]; exact True.intro) (.inr ho) (fun b q hb z => (sb.2 b hb).trans z) hd ?_
  refine ⟨by rw [upd_ne O.ne]; exact ho, ?_, O.ne, O'.obj, _, O'.ns, fun g => ?_, fun g hg => ?_⟩
  · have := length_putF f y fs; omega
  · show RelO ((putF f y fs).lookup g) (if g = f then some u else mA g)
    rw [lookup_putF]
    by_cases q : g = f
    · rw [if_pos q, if_pos q]; exact ry
    · rw [if_neg q, if_neg q]; exact r g
  · by_cases q : g = f
    · rw [q]; exact (keys_putF f y fs).1
    · refine (keys_putF f y fs).2 g (wi g fun z => hg ?_)
      show (if g = f then some u else mA g) = none
      rw [if_neg q]; exact z

/-- a new instance, tracked, without attributes -/
theorem Inv.made (I : Inv X pins σ H s) : Inv X pins σ (upd (upd H s.heap.objs.size (.own (s.heap.objs.size + 1))) (s.heap.objs.size + 1) (.ins C s.heap.objs.size []))
    { s with heap := (s.heap.push PySem.W.emptyDict).push (PySem.W.instObj C s.heap.objs.size) } := by
  have e1 : (s.heap.push PySem.W.emptyDict).get? s.heap.objs.size = some PySem.W.emptyDict := Heap.get?_push_size s.heap rfl
  have e2 : ((s.heap.push PySem.W.emptyDict).push (PySem.W.instObj C s.heap.objs.size)).get? (s.heap.objs.size + 1) = some (PySem.W.instObj C s.heap.objs.size) := by
    have := Heap.get?_push_size (s.heap.push PySem.W.emptyDict) (o := PySem.W.instObj C s.heap.objs.size) rfl
    rwa [Heap.size_push] at this
  have e3 : (s.heap.push PySem.W.emptyDict).Ns s.heap.objs.size (fun _ => none) := ⟨PySem.W.emptyDict, #[], _, e1, rfl, (fun e he => absurd he (by simp)), fun _ => rfl⟩
  have I1 := I.laid (a := s.heap.objs.size) (o := .own (s.heap.objs.size + 1)) (h' := s.heap.push PySem.W.emptyDict) (t' := s.toks) (fun b u q => Heap.get?_push_of_some _ q) (Nat.le_refl _) ⟨_, e1⟩
  refine I1.laid (a := s.heap.objs.size + 1) (o := .ins C s.heap.objs.size []) (t' := s.toks) (fun b u q => Heap.get?_push_of_some _ q) (Nat.le_of_eq (Heap.size_push _ _)) ?_
  have ne : s.heap.objs.size ≠ s.heap.objs.size + 1 := Nat.ne_of_lt (Nat.lt_succ_self _)
  refine ⟨by rw [upd_ne ne, upd_same], Nat.zero_le _, ne, e2, fun _ => none, (Heap.Ns1.of_empty e3).at fun o q => Heap.get?_push_of_some _ q, fun _ => True.intro, fun y hy => absurd rfl hy⟩

/-- e.f where nothing but the object is asked: through attributeBase (super) and the last hold -/
theorem attr_of {prog : Program} {w : World} {env : Env} {e : Expr} {f : Str} {pos : Pos} {s : Shared} {Q : Value → Shared → Prop} (hb : attributeBase e f env (eval e env) = eval e env)
    (h : wpAny (model prog w) A (eval e env) (fun o s₁ => wpAny (model prog w) A (getAttr o f true) Q E s₁) E s) : wpAny (model prog w) A (eval (.Attribute e f pos) env) Q E s :=
  Attribute_any_ h (by rw [arm_eval_Attribute, hb])
end

/-! ### readings and rules -/
/-- e.f, an attribute of the instance -/
def tFld (K : PySem.W.Frag) (ta : TE) (f : Str) : TE := fun σ H Q => ta σ H fun x H1 => ∃ a C dx fs v, x = .ref a ∧ H1 a = some (.ins C dx fs) ∧ Cls K C ∧ NoAttr K C f ∧ fs.lookup f = some v ∧ Q v H1
/-- e.f = value -/
def sFld (K : PySem.W.Frag) (ta tv : TE) (f : Str) : TS := fun D σ H => tv σ H fun y H1 => ta σ H1 fun x H2 => ∃ a C dx fs, x = .ref a ∧ H2 a = some (.ins C dx fs) ∧ Cls K C ∧ NoAttr K C f ∧ fs.length < 1000 ∧
  D.nx σ (upd H2 a (.ins C dx (putF f y fs)))

section
variable {X : Cx} {o e value : Expr} {f : Str} {pos pos' tpos : Pos} {ta tv : TE}
theorem pe_fld (he : PE X e ta) (hb : attributeBase e f X.env (eval e X.env) = eval e X.env) : PE X (.Attribute e f pos) (tFld X.K ta f) := by
  intro pins s σ H Q I h
  refine attr_of hb (thn (he pins s σ H _ I h) fun u s1 ⟨x, H1, I1, rx, a, C, dx, fs, v, ex, ea, c, n, l, q⟩ => ?_)
  subst ex
  obtain rfl : u = Value.ref a := rx
  exact getattr_ok I1 ea c n l fun u' s2 I2 ru => ⟨v, H1, I2, ru, q⟩
theorem ps_fld (ha : PE X o ta) (hv : PE X value tv) (hs : swapsWith value (some (.Attribute o f pos')) pos.line X.env = pure false) : PS X (.Assign [.Attribute o f pos'] value pos) (sFld X.K ta tv f) := by
  intro pins s σ H D I h
  refine plainObj_wpAny_Assign_Attribute (thn (hv pins s σ H _ I h) fun u s1 ⟨y, H1, I1, ry, q⟩ => thn (ha pins s1 σ H1 _ I1 q) fun ov s2 ⟨x, H2, I2, rx, a, C, dx, fs, ex, ea, c, n, l, q2⟩ => ?_) hs
  subst ex
  obtain rfl : ov = Value.ref a := rx
  exact setattr_ok I2 ea c n l ry fun s3 I3 => ⟨σ, _, I3, q2⟩

end

/-! ### isinstance -/
section
variable {X : Cx} {pins : List (Addr × Obj)} {σ : St} {H : Hp} {s : Shared} {A : Around} {E : Value → Shared → Prop} {Q : Value → Shared → Prop} {c : Value} {b : Bool}
/-- the type of a value, as the fragment's deciders take it; for an instance its class -/
inductive TyOf (K : PySem.W.Frag) (H : Hp) : V → Value → Prop where
  | non : TyOf K H .non (.type "NoneType")
  | bl (x : Bool) : TyOf K H (.bl x) (.type "bool")
  | int (i : Int) : TyOf K H (.int i) (.type "int")
  | str (x : Str) : TyOf K H (.str x) (.type "str")
  | flt (x : UInt64) : TyOf K H (.flt x) (.type "float")
  | lst {a : Addr} {xs : List V} (e : H a = some (.lst xs)) : TyOf K H (.ref a) (.type "list")
  | frz {a : Addr} {o : Obj} {xs : List V} (e : H a = some (.frz o (.lst xs))) : TyOf K H (.ref a) (.type "list")
  | tup {a : Addr} {xs : List V} (e : H a = some (.tup xs)) : TyOf K H (.ref a) (.type "tuple")
  | dK {a : Addr} {kvs : List (Key × V)} (e : H a = some (.dK kvs)) : TyOf K H (.ref a) (.type "dict")
  | dT {a : Addr} {kvs : List (List Key × V)} (e : H a = some (.dT kvs)) : TyOf K H (.ref a) (.type "dict")
  | ins {a C dx : Addr} {fs : List (Str × V)} (e : H a = some (.ins C dx fs)) (cl : Cls K C) (ha : PySem.W.findIn K (.ref C) "__class__" = some (some (.builtin "object.__class__")))
      (hn : PySem.W.specialIn K (.builtin "object.__class__") "__get__" = some (some (.builtin "getset_descriptor.__get__"))) (htk : PySem.W.takesIn K (.builtin "object.__class__") = some true)
      (hm : PySem.W.mroIn K C (.type "object") = some true) : TyOf K H (.ref a) (.ref C)
/-- isinstance(x, c) for one class c, a built-in or an own one: kitOne's answer -/
theorem isinst_ok {x : V} {u t : Value} (I : Inv X pins σ H s) (rx : RelV x u) (ty : TyOf X.K H x t) (e : PySem.W.kitOne X.K t c = some b) (h : ∀ tk, Q (.bool b) { s with toks := tk }) :
    wpAny (model X.prog X.w) A (call (.builtin "isinstance") [u, c]) Q E s := by
  cases ty with
  | non => cases (show u = Value.none from rx); exact PySem.W.kia_one PySem.W.kitx_none I.kIn True.intro e (fun z => nomatch z) h
  | bl y => cases (show u = Value.bool y from rx); exact PySem.W.kia_one PySem.W.kitx_bool I.kIn True.intro e (fun z => nomatch z) h
  | int i => obtain ⟨t, q⟩ := (show ∃ t, u = Value.int i t from rx); cases q; exact PySem.W.kia_one PySem.W.kitx_int I.kIn True.intro e (fun z => nomatch z) h
  | str y => obtain ⟨t, q⟩ := (show ∃ t, u = Value.str y t from rx); cases q; exact PySem.W.kia_one PySem.W.kitx_str I.kIn True.intro e (fun z => nomatch z) h
  | flt y => obtain ⟨t, q⟩ := (show ∃ t, u = Value.float y t from rx); cases q; exact PySem.W.kia_one PySem.W.kitx_float I.kIn True.intro e (fun z => nomatch z) h
  | @lst a xs ea =>
    cases (show u = Value.ref a from rx)
    obtain ⟨_, _, n, _, h1⟩ := (show ObjOk X.prog X.w H s.heap a (.lst xs) from I.hok a _ ea)
    exact PySem.W.kia_one PySem.W.kitx_list I.kIn ⟨_, h1, rfl⟩ e (fun z => nomatch z) h
  | @frz a ob xs ea =>
    cases (show u = Value.ref a from rx)
    obtain ⟨_, _, _, n, _, h1⟩ := (show ObjOk X.prog X.w H s.heap a (.frz ob (.lst xs)) from I.hok a _ ea)
    exact PySem.W.kia_one PySem.W.kitx_list I.kIn ⟨_, h1, rfl⟩ e (fun z => nomatch z) h
  | @tup a xs ea =>
    cases (show u = Value.ref a from rx)
    obtain ⟨_, _, _, p⟩ := (show ObjOk X.prog X.w H s.heap a (.tup xs) from I.hok a _ ea)
    obtain ⟨o, h1, h2, _⟩ := p
    exact PySem.W.kia_one PySem.W.kitx_tuple I.kIn ⟨o, h1, h2⟩ e (fun z => nomatch z) h
  | @dK a kvs ea =>
    cases (show u = Value.ref a from rx)
    obtain ⟨_, _, vs, _, p⟩ := (show ObjOk X.prog X.w H s.heap a (.dK kvs) from I.hok a _ ea)
    obtain ⟨o, es, ep, h1, h2, _⟩ := p
    exact PySem.W.kia_one PySem.W.kitx_dict I.kIn ⟨o, h1, h2.1⟩ e (fun z => nomatch z) h
  | @dT a kvs ea =>
    cases (show u = Value.ref a from rx)
    obtain ⟨_, _, xs, _, o, es, ep, h1, h2, _⟩ := (show ObjOk X.prog X.w H s.heap a (.dT kvs) from I.hok a _ ea)
    exact PySem.W.kia_one PySem.W.kitx_dict I.kIn ⟨o, h1, h2.1⟩ e (fun z => nomatch z) h
  | @ins a C dx fs ea cl ha hn htk hm =>
    cases (show u = Value.ref a from rx)
    obtain ⟨mA, O, _⟩ := ins_get I.hok ea
    obtain ⟨od, J, _⟩ := O.look
    exact PySem.W.kia_one (PySem.W.kitx_own (cl.get _) cl.hd ha hn htk hm) I.kIn J e (fun z => nomatch z) h
end
end L2

namespace L2
open PySem PySem.Spec PyProof.Rows

/-! ### room -/
structure Room (k : Nat) (A : Around) : Prop where
  hd : A.handled = none
  dp : A.depth + 3 * k + 5 < recursionLimit
  un : A.units + 16 * k + 200 < cLine
theorem Room.mono {j k : Nat} {A : Around} (r : Room k A) (h : j ≤ k) : Room j A := ⟨r.hd, by have := r.dp; omega, by have := r.un; omega⟩
theorem Room.deeper {k : Nat} {A : Around} (r : Room (k + 1) A) (env : Env) : Room k (A.deeper env) :=
  ⟨r.hd, by have := r.dp; show A.depth + 1 + 3 * k + 5 < _; omega, by have := r.un; show A.units + 3 + 16 * k + 200 < _; omega⟩
theorem make_depth {A : Around} {C : Addr} {us : List Value} {kw : List (Str × Value)} : (A.under (.builtin "type.__call__" ⟨.ref C :: us, kw⟩)).depth = A.depth + 1 := by
  first | rfl | simp [Around.under, Code.weight, Code.isCreation, Code.isGuard, Code.isCaller, Code.frames, Code.isFrame, guardIds]
theorem make_units {A : Around} {C : Addr} {us : List Value} {kw : List (Str × Value)} : (A.under (.builtin "type.__call__" ⟨.ref C :: us, kw⟩)).units = A.units + 1 := by
  first | rfl | simp [Around.under, Code.cUnits, Code.frames, Code.isFrame]
theorem Room.make {k : Nat} {A : Around} (r : Room (k + 1) A) (C : Addr) (us : List Value) (kw : List (Str × Value)) : Room k (A.under (.builtin "type.__call__" ⟨.ref C :: us, kw⟩)) :=
  ⟨r.hd, by have := r.dp; rw [make_depth]; omega, by have := r.un; rw [make_units]; omega⟩
theorem Room.depth {k : Nat} {A : Around} (r : Room k A) : A.depth < recursionLimit := by have := r.dp; omega
theorem Room.units {k : Nat} {A : Around} (r : Room k A) : A.units + 64 < cLine := by have := r.un; omega
theorem Room.units0 {k : Nat} {A : Around} (r : Room k A) : A.units < cLine := by have := r.un; omega

/-! ### argument lists and displays -/
def tNil : TA := fun _ H Q => Q [] H
def tCons (ta : TE) (tr : TA) : TA := fun σ H Q => ta σ H fun x H1 => tr σ H1 fun xs H2 => Q (x :: xs) H2
section
variable {X : Cx} {e : Expr} {es : List Expr} {te : TE} {t : TA} {pos : Pos}
theorem pa_nil : PA X [] tNil := fun _ _ _ _ H Q I h => Calls.spliced_nil ⟨[], H, I, .nil, h⟩
theorem pa_cons (ha : PE X e te) (hr : PA X es t) (hs : starEach (e :: es) X.env = (false, eval e X.env) :: starEach es X.env := by rfl) : PA X (e :: es) (tCons te t) := by
  intro pos pins s σ H Q I h
  rw [hs]
  show wpAny _ _ (spliced ((false, eval e X.env) :: backTo pos (starEach es X.env))) _ _ s
  refine Calls.spliced_cons (thn (ha pins s σ H _ I h) fun u s1 ⟨x, H1, I1, r1, q1⟩ => ?_)
  exact thn (hr pos pins s1 σ H1 _ I1 q1) fun us s2 ⟨xs, H2, I2, r2, q2⟩ => ⟨x :: xs, H2, I2, .cons r1 r2, q2⟩

/-- a tuple, a list of written items -/
def tTup (t : TA) : TE := fun σ H Q => t σ H fun xs H1 => xs.length ≤ sizeLine ∧ ∀ p, H1 p = none → Q (.ref p) (upd H1 p (.tup xs))
def tLst (t : TA) : TE := fun σ H Q => t σ H fun xs H1 => xs.length ≤ sizeLine ∧ ∀ p, H1 p = none → Q (.ref p) (upd H1 p (.lst xs))
theorem pe_tup {x1} (h : PA X es t) : PE X (.Tuple es x1 pos) (tTup t) := by
  intro pins s σ H Q I hq
  refine wpAny_Tuple_spliced (thn (h pos pins s σ H _ I hq) fun us s1 ⟨xs, H1, I1, r, z, q⟩ => ⟨by rw [← r.length]; exact z, ?_⟩)
  have hf : H1 s1.heap.objs.size = none := I1.hok.fresh (Nat.le_refl _)
  refine ⟨.ref s1.heap.objs.size, upd H1 s1.heap.objs.size (.tup xs), I1.laid (t' := s1.toks) (fun b u e => Heap.get?_push_of_some _ e) (Nat.le_refl _) ?_, rfl, q _ hf⟩
  exact ⟨z, us, r, ⟨_, Heap.get?_push_size _ rfl, rfl, _, rfl⟩⟩
theorem pe_lst (h : PA X es t) : PE X (.List es pos) (tLst t) := by
  intro pins s σ H Q I hq
  refine wpAny_List_spliced (thn (h pos pins s σ H _ I hq) fun us s1 ⟨xs, H1, I1, r, z, q⟩ => ⟨by rw [← r.length]; exact z, ?_⟩)
  have hf : H1 s1.heap.objs.size = none := I1.hok.fresh (Nat.le_refl _)
  refine ⟨.ref s1.heap.objs.size, upd H1 s1.heap.objs.size (.lst xs), I1.laid (t' := s1.toks) (fun b u e => Heap.get?_push_of_some _ e) (Nat.le_refl _) ?_, rfl, q _ hf⟩
  exact ⟨z, us, 0, r, Heap.get?_push_size _ rfl⟩
end

/-! ### what a def promises -/
/-- a def's promise: the bound arguments in the parameters' order, the heap, the wanted end, the wanted exception -/
abbrev Sp := List V → Hp → VK → XK → Prop
/-- how an exception lies behind a call (file 08 gives it): the callers' frames, abstract heap and state ahead of the call, the wish, the exception, the state -/
abbrev CXT := List Env → Hp → Shared → XK → Value → Shared → Prop

/-- the state at a call -/
structure Env0 (P : Program) (w : World) (K : PySem.W.Frag) (mg : Str → Option Value) (base : Heap) (A : Around) (outer : List Env) (s : Shared) (H : Hp) : Prop where
  frames : A.frames = some outer
  mod : Mod K mg base
  bs : ∀ b o, base.get? b = some o → s.heap.get? b = some o ∧ H b = none
  bsz : base.objs.size ≤ s.heap.objs.size
  funs : s.heap.FunFrames base outer
  frf : ∀ b ∈ frs outer, H b = none
  hok : HOk P w H s.heap
  bare : AllBare s.gens
/-- a call's end -/
def CE (outer : List Env) (P : Program) (w : World) (H : Hp) (s : Shared) (Q : VK) (u : Value) (s' : Shared) : Prop :=
  ∃ v H', s'.os = s.os ∧ AllBare s'.gens ∧ Un (frs outer) [] H H' s.heap s'.heap ∧ HOk P w H' s'.heap ∧ RelV v u ∧ Q v H'
def CR (CX : CXT) (outer : List Env) (P : Program) (w : World) (H : Hp) (s : Shared) (Q : VK) (E : XK) (r : Result) (s' : Shared) : Prop :=
  match r with
  | .ok (.ret u) => CE outer P w H s Q u s'
  | .ok _ => False
  | .error e => CX outer H s E e s'
structure FnOk (P : Program) (w : World) (K : PySem.W.Frag) (mg : Str → Option Value) (base : Heap) (CX : CXT) (k : Nat) (f : Addr) (fd : FuncData) (ps : List Str) (sp : Sp) : Prop where
  len : ∀ vs H Q E, sp vs H Q E → vs.length = ps.length
  run : ∀ (A : Around) (outer : List Env) (s : Shared) (H : Hp) (args : Args) (us : List Value) (vs : List V) (Q : VK) (E : XK), Room k A → Env0 P w K mg base A outer s H → BindsTo s fd args (ps.zip us) → Vals vs us → sp vs H Q E →
    codeAny (model P w) A (.call (.ref f) args) (CR CX outer P w H s Q E) s
theorem FnOk.mono {P : Program} {w : World} {K : PySem.W.Frag} {mg : Str → Option Value} {base : Heap} {CX : CXT} {j k : Nat} {f : Addr} {fd : FuncData} {ps : List Str} {sp : Sp} (F : FnOk P w K mg base CX j f fd ps sp) (h : j ≤ k) :
    FnOk P w K mg base CX k f fd ps sp := ⟨F.len, fun A outer s H args us vs Q E hr => F.run A outer s H args us vs Q E (hr.mono h)⟩

theorem Env0.make {P : Program} {w : World} {K : PySem.W.Frag} {mg : Str → Option Value} {base : Heap} {A : Around} {outer : List Env} {s : Shared} {H : Hp} (e : Env0 P w K mg base A outer s H) (C : Addr) (us : List Value) (kw : List (Str × Value)) :
    Env0 P w K mg base (A.under (.builtin "type.__call__" ⟨.ref C :: us, kw⟩)) outer s H := ⟨by first | exact e.frames | (simpa [Around.under, Code.envs, Code.isFrame, pushEnvs] using e.frames), e.mod, e.bs, e.bsz, e.funs, e.frf, e.hok, e.bare⟩

section
variable {X : Cx} {pins : List (Addr × Obj)} {σ : St} {H : Hp} {s s' : Shared}
/-- from a body: what a callee wants -/
theorem Inv.env0 (I : Inv X pins σ H s) : Env0 X.prog X.w X.K X.mg X.base X.A X.stack s H :=
  ⟨I.ok.frames, I.ok.mod, I.bs, Nat.le_trans I.ok.bsz I.sz, I.stack, I.stkFree, I.hok, I.bare⟩
/-- behind a call -/
theorem Inv.after {Q : VK} {u : Value} (I : Inv X pins σ H s) (h : CE X.stack X.prog X.w H s Q u s') : EP X pins σ Q u s' := by
  obtain ⟨v, H', os, bare, un, hok, r, q⟩ := h
  obtain ⟨hh, g, d, t, os'⟩ := s'
  obtain rfl : os' = s.os := os
  exact ⟨v, H', I.call (h' := hh) (g' := g) (d' := d) (t' := t) (ch := []) un hok bare (fun b z => absurd z (by simp)), r, q⟩
end

/-! ### calls -/
/-- f(..): the written arguments, then the defaults dvs; E: what is wanted of an exception -/
def tCall (sp : Sp) (dvs : List V) (E : XK) (t : TA) : TE := fun σ H Q => t σ H fun vs H1 => sp (vs ++ dvs) H1 Q E
/-- o.m(..) of an instance of the class at C -/
def tMeth (C : Addr) (m : Str) (sp : Sp) (dvs : List V) (E : XK) (ta : TE) (t : TA) : TE := fun σ H Q => ta σ H fun x H1 => ∃ a dx fs, x = .ref a ∧ H1 a = some (.ins C dx fs) ∧ fs.lookup m = none ∧
  t σ H1 fun vs H2 => sp (x :: (vs ++ dvs)) H2 Q E
/-- C(..): a new instance and its dict, then __init__ -/
def tMake (C : Addr) (sp : Sp) (dvs : List V) (E : XK) (t : TA) : TE := fun σ H Q => t σ H fun vs H1 => ∀ x dx, H1 x = none → H1 dx = none → dx ≠ x →
  sp (.ref x :: (vs ++ dvs)) (upd (upd H1 dx (.own x)) x (.ins C dx [])) (fun v H2 => v = .non ∧ Q (.ref x) H2) E

/-- how the parameters are bound: us the positional arguments, kw the keywords' values by name, ds the defaults that fill up -/
def Binds (K : PySem.W.Frag) (fd : FuncData) (ps : List Str) (ds : List Value) : Prop :=
  ∀ (s : Shared) (us : List Value), K.In s.heap → (us ++ ds).length = ps.length → BindsTo s fd ⟨us, []⟩ (ps.zip (us ++ ds))
/-- every parameter is given -/
theorem Binds.all {K : PySem.W.Frag} {fd : FuncData} {ps : List Str} (h : ∀ us : List Value, us.length = ps.length → bindArgs fd ⟨us, []⟩ = pure (ps.zip us)) : Binds K fd ps [] := fun s us _ hl => by
  rw [List.append_nil] at hl ⊢
  exact .of_eq (h us hl)

/-- an exception of a callee reaches what this body wants of exceptions -/
def Passes (CX : CXT) (X : Cx) (E : XK) : Prop := ∀ (pins : List (Addr × Obj)) (σ : St) (H : Hp) (s : Shared) (e : Value) (s' : Shared), Inv X pins σ H s → CX X.stack H s E e s' → X.xe e s'

section
variable {X : Cx} {CX : CXT} {k : Nat} {f C : Addr} {fd : FuncData} {ps : List Str} {sp : Sp} {dvs : List V} {ds : List Value} {E : XK} {x m : Str} {p pos apos : Pos} {e o : Expr} {es : List Expr} {ta : TE} {t : TA}

/-- the callee runs -/
theorem run_fn {pins : List (Addr × Obj)} {σ : St} {H : Hp} {s : Shared} {Q : VK} {us : List Value} {vs : List V} (F : FnOk X.prog X.w X.K X.mg X.base CX k f fd ps sp) (hr : Room k X.A) (hb : Binds X.K fd ps ds) (hd : Vals dvs ds) (hx : Passes CX X E)
    (I : Inv X pins σ H s) (r : Vals vs us) (h : sp (vs ++ dvs) H Q E) : wpAny (model X.prog X.w) X.A (call (.ref f) us) (EP X pins σ Q) X.xe s := by
  have r2 : Vals (vs ++ dvs) (us ++ ds) := r.append hd
  have hl : (us ++ ds).length = ps.length := by rw [← r2.length]; exact F.len _ _ _ _ h
  refine wpAny_call (codeAny_mono (F.run X.A X.stack s H ⟨us, []⟩ (us ++ ds) (vs ++ dvs) Q E hr I.env0 (hb s us I.kIn hl) r2 h) fun r s' hq => ?_)
  cases r with
  | error e => exact hx pins σ H s e s' I hq
  | ok fl =>
    cases fl with
    | ret u => exact I.after hq
    | next => exact False.elim hq
    | brk => exact False.elim hq
    | cont => exact False.elim hq

theorem pe_call (F : FnOk X.prog X.w X.K X.mg X.base CX k f fd ps sp) (hr : Room k X.A) (hg : Gl X x) (hm : X.mg x = some (.ref f)) (hk : PySem.W.keepIn X.K (.ref f) = true) (hb : Binds X.K fd ps ds) (hd : Vals dvs ds) (hx : Passes CX X E)
    (ha : PA X (e :: es) t) (hdb : (x == ("__debug__" : Str)) = false := by decide) (he : starEach (e :: es) X.env = (false, eval e X.env) :: starEach es X.env := by rfl) (hpl : (backTo pos (starEach es X.env)).any (·.1) = false := by rfl) :
    PE X (.Call (.Name x p) (e :: es) [] pos) (tCall sp dvs E t) := by
  intro pins s σ H Q I h
  refine wpAny_Call_Name_kw (ld_glob I hg hm ?_ hdb)
  refine PySem.W.callWith_K (h₀ := X.base) I.ok.mod.kin hk (thn (ha pos pins s σ H _ I h) fun us s1 ⟨vs, H1, I1, r, q⟩ => ⟨I1.kIn, ?_⟩) he hpl
  exact run_fn F hr hb hd hx I1 r q

/-- o.m(e, ..) -/
theorem pe_meth {pl : Sem Bool} (he : PE X o ta) (c : Cls X.K C) (hm : Meth X.K C m f) (F : FnOk X.prog X.w X.K X.mg X.base CX k f fd ps sp) (hr : Room k X.A) (hb : Binds X.K fd ps ds) (hd : Vals dvs ds) (hx : Passes CX X E) (ha : PA X (e :: es) t)
    (hst : starEach (e :: es) X.env = (false, eval e X.env) :: starEach es X.env := by rfl) (hpl : (backTo pos (starEach es X.env)).any (·.1) = false := by rfl)
    (ht : eval (.Call (.Attribute o m apos) (e :: es) [] pos) X.env = (do
      let ov ← eval o X.env
      standAt apos.atName
      let (f, first) ← holding [ov] (getMethod ov m pl)
      callWith pos f first (backTo pos (starEach (e :: es) X.env)) (backToKw pos (keywordEach [] X.env))) := by rfl) :
    PE X (.Call (.Attribute o m apos) (e :: es) [] pos) (tMeth C m sp dvs E ta t) := by
  intro pins s σ H Q I h
  refine PySem.W.methodCall_KW (pl := pl) (thn (he pins s σ H _ I h) fun u s1 ⟨x, H1, I1, rx, a, dx, fs, ex, ea, l, q⟩ => ?_) ht
  subst ex
  obtain rfl : u = Value.ref a := rx
  refine getmeth_ok I1 ea c hm l ?_
  refine PySem.W.callWith_K (first := [.ref a]) (h₀ := X.base) I.ok.mod.kin hm.kp (thn (ha pos pins s1 σ H1 _ I1 q) fun us s2 ⟨vs, H2, I2, r, q2⟩ => ⟨I2.kIn, ?_⟩) hst hpl
  exact run_fn (us := .ref a :: us) (vs := .ref a :: vs) F hr hb hd hx I2 (.cons rfl r) q2
/-- o.m() -/
theorem pe_meth0 {pl : Sem Bool} (he : PE X o ta) (c : Cls X.K C) (hm : Meth X.K C m f) (F : FnOk X.prog X.w X.K X.mg X.base CX k f fd ps sp) (hr : Room k X.A) (hb : Binds X.K fd ps ds) (hd : Vals dvs ds) (hx : Passes CX X E)
    (ht : eval (.Call (.Attribute o m apos) [] [] pos) X.env = (do
      let ov ← eval o X.env
      standAt apos.atName
      let (f, first) ← holding [ov] (getMethod ov m pl)
      callWith pos f first (backTo pos (starEach [] X.env)) (backToKw pos (keywordEach [] X.env))) := by rfl) :
    PE X (.Call (.Attribute o m apos) [] [] pos) (tMeth C m sp dvs E ta tNil) := by
  intro pins s σ H Q I h
  refine PySem.W.methodCall_KW (pl := pl) (thn (he pins s σ H _ I h) fun u s1 ⟨x, H1, I1, rx, a, dx, fs, ex, ea, l, q⟩ => ?_) ht
  subst ex
  obtain rfl : u = Value.ref a := rx
  refine getmeth_ok I1 ea c hm l ?_
  exact PySem.W.callWith_K0 (first := [.ref a]) I1.kIn hm.kp (run_fn (us := [.ref a]) (vs := [.ref a]) F hr hb hd hx I1 (.cons rfl .nil) q)

/-- what a class must have to be made -/
structure Mk (K : PySem.W.Frag) (C f : Addr) : Prop where
  makes : PySem.W.makesIn K C = true
  init : PySem.W.findIn K (.ref C) "__init__" = some (some (.ref f))
  fn : PySem.W.isFn K (.ref f) = true
  kp : PySem.W.keepIn K (.ref C) = true

theorem run_make {pins : List (Addr × Obj)} {σ : St} {H : Hp} {s : Shared} {Q : VK} {us : List Value} {vs : List V} (M : Mk X.K C f) (F : FnOk X.prog X.w X.K X.mg X.base CX k f fd ps sp) (hr : Room (k + 1) X.A) (hb : Binds X.K fd ps ds) (hd : Vals dvs ds)
    (hx : Passes CX X E) (I : Inv X pins σ H s) (r : Vals vs us)
    (h : ∀ x dx, H x = none → H dx = none → dx ≠ x → sp (.ref x :: (vs ++ dvs)) (upd (upd H dx (.own x)) x (.ins C dx [])) (fun v H2 => v = .non ∧ Q (.ref x) H2) E) :
    wpAny (model X.prog X.w) X.A (call (.ref C) us) (EP X pins σ Q) X.xe s := by
  have hq := h (s.heap.objs.size + 1) s.heap.objs.size (I.hok.fresh (Nat.le_succ _)) (I.hok.fresh (Nat.le_refl _)) (Nat.ne_of_lt (Nat.lt_succ_self _))
  have I2 := Inv.made (C := C) I
  have r2 : Vals (V.ref (s.heap.objs.size + 1) :: (vs ++ dvs)) (Value.ref (s.heap.objs.size + 1) :: (us ++ ds)) := .cons rfl (r.append hd)
  have hl : (Value.ref (s.heap.objs.size + 1) :: us ++ ds).length = ps.length := by
    have e := r2.length
    rw [F.len _ _ _ _ hq] at e
    exact e.symm
  refine wpAny_call (make_map (f := f) I.kIn M.makes M.init (beq_iff_eq.mp M.fn) (codeAny_mono (F.run _ X.stack _ _ ⟨Value.ref (s.heap.objs.size + 1) :: us, []⟩ (Value.ref (s.heap.objs.size + 1) :: (us ++ ds)) _ _ E (hr.make C us [])
    (I2.env0.make C us []) (hb _ (Value.ref (s.heap.objs.size + 1) :: us) I2.kIn hl) r2 hq) fun r s' hq' => ?_))
  cases r with
  | error e => exact hx pins σ _ _ e s' I2 hq'
  | ok fl =>
    cases fl with
    | ret u =>
      obtain ⟨v, H', I3, rv, ev, q3⟩ := I2.after hq'
      subst ev
      exact ⟨rv, ⟨V.ref (s.heap.objs.size + 1), H', I3, rfl, q3⟩⟩
    | next => exact False.elim hq'
    | brk => exact False.elim hq'
    | cont => exact False.elim hq'
theorem pe_make (M : Mk X.K C f) (F : FnOk X.prog X.w X.K X.mg X.base CX k f fd ps sp) (hr : Room (k + 1) X.A) (hg : Gl X x) (hm : X.mg x = some (.ref C)) (hb : Binds X.K fd ps ds) (hd : Vals dvs ds) (hx : Passes CX X E)
    (ha : PA X (e :: es) t) (hdb : (x == ("__debug__" : Str)) = false := by decide) (he : starEach (e :: es) X.env = (false, eval e X.env) :: starEach es X.env := by rfl) (hpl : (backTo pos (starEach es X.env)).any (·.1) = false := by rfl) :
    PE X (.Call (.Name x p) (e :: es) [] pos) (tMake C sp dvs E t) := by
  intro pins s σ H Q I h
  refine wpAny_Call_Name_kw (ld_glob I hg hm ?_ hdb)
  refine PySem.W.callWith_K (h₀ := X.base) I.ok.mod.kin M.kp (thn (ha pos pins s σ H _ I h) fun us s1 ⟨vs, H1, I1, r, q⟩ => ⟨I1.kIn, ?_⟩) he hpl
  exact run_make M F hr hb hd hx I1 r q
end

/-! ### keywords -/
section
variable {X : Cx} {CX : CXT} {k : Nat} {f C : Addr} {fd : FuncData} {ps ks : List Str} {sp : Sp} {E : XK} {x m : Str} {p pos apos kpos : Pos} {e o : Expr} {es : List Expr} {kws : List Keyword} {te ta : TE} {t tk : TA} {nm : Option Str}

/-- how a call with keywords binds: g puts the positional values us and the keywords' values ws (names ks) in the parameters' order, defaults among them -/
structure KBinds (K : PySem.W.Frag) (fd : FuncData) (ps ks : List Str) (g : List Value → List Value → List Value) (gV : List V → List V → List V) : Prop where
  to : ∀ (s : Shared) (us ws : List Value), K.In s.heap → (g us ws).length = ps.length → BindsTo s fd ⟨us, ks.zip ws⟩ (ps.zip (g us ws))
  rel : ∀ {vs : List V} {us : List Value} {zs : List V} {ws : List Value}, Vals vs us → Vals zs ws → Vals (gV vs zs) (g us ws)
variable {g : List Value → List Value → List Value} {gV : List V → List V → List V}
end

/-! ### a def's body keeps its promise -/
/-- names: the parameters first -/
structure FnScope (N P : List Str) (sc : Scope) : Prop where
  kind : sc.kind = .function
  co : sc.isCoroutine = false
  gen : sc.isGenerator = false
  nd : N.Nodup
  pre : N.take P.length = P
  par : ∀ x ∈ P, sc.names.lookup x = some .local ∨ sc.names.lookup x = some .cell
  nofree : ∀ y ∈ sc.names, y.2 ≠ .free

theorem bindL_out {kindOf : Str → Option NameKind} {x : Str} : ∀ {binds : List (Str × Value)} {m : Str → Option Value}, (∀ v, (x, v) ∉ binds) → bindL kindOf binds m x = m x
  | [], _, _ => rfl
  | (n, v) :: r, m, h => by
    unfold bindL
    rw [bindL_out fun w hw => h w (List.mem_cons_of_mem _ hw)]
    split
    · have : x ≠ n := by rintro rfl; exact h v List.mem_cons_self
      simp [this]
    · rfl
theorem bindC_out {kindOf : Str → Option NameKind} {x : Str} : ∀ {binds : List (Str × Value)} {m : Str → Option Value}, (∀ v, (x, v) ∉ binds) → bindC kindOf binds m x = m x
  | [], _, _ => rfl
  | (n, v) :: r, m, h => by
    unfold bindC
    rw [bindC_out fun w hw => h w (List.mem_cons_of_mem _ hw)]
    split
    · rfl
    · have : x ≠ n := by rintro rfl; exact h v List.mem_cons_self
      simp [this]
theorem bindL_get {kindOf : Str → Option NameKind} {x : Str} {v : Value} : ∀ {P : List Str} {vs : List Value} {i : Nat} {m : Str → Option Value}, P.Nodup → P[i]? = some x → vs[i]? = some v → kindOf x = some .local →
    bindL kindOf (P.zip vs) m x = some v
  | [], _, _, _, _, h, _, _ => by simp at h
  | _ :: _, [], _, _, _, _, h, _ => by simp at h
  | p :: P, w :: vs, 0, m, nd, h1, h2, hk => by
    simp at h1 h2; subst h1; subst h2
    show bindL kindOf ((p, w) :: P.zip vs) m p = _
    unfold bindL
    rw [bindL_out fun v hv => (List.nodup_cons.mp nd).1 (List.of_mem_zip hv).1, if_pos hk]
    simp
  | p :: P, w :: vs, i + 1, m, nd, h1, h2, hk => by
    show bindL kindOf ((p, w) :: P.zip vs) m x = _
    unfold bindL
    exact bindL_get (i := i) (List.nodup_cons.mp nd).2 (by simpa using h1) (by simpa using h2) hk
theorem bindC_get {kindOf : Str → Option NameKind} {x : Str} {v : Value} : ∀ {P : List Str} {vs : List Value} {i : Nat} {m : Str → Option Value}, P.Nodup → P[i]? = some x → vs[i]? = some v → kindOf x ≠ some .local →
    bindC kindOf (P.zip vs) m x = some v
  | [], _, _, _, _, h, _, _ => by simp at h
  | _ :: _, [], _, _, _, _, h, _ => by simp at h
  | p :: P, w :: vs, 0, m, nd, h1, h2, hk => by
    simp at h1 h2; subst h1; subst h2
    show bindC kindOf ((p, w) :: P.zip vs) m p = _
    unfold bindC
    rw [bindC_out fun v hv => (List.nodup_cons.mp nd).1 (List.of_mem_zip hv).1, if_neg hk]
    simp
  | p :: P, w :: vs, i + 1, m, nd, h1, h2, hk => by
    show bindC kindOf ((p, w) :: P.zip vs) m x = _
    unfold bindC
    exact bindC_get (i := i) (List.nodup_cons.mp nd).2 (by simpa using h1) (by simpa using h2) hk

/-- the names' values at the entry -/
def start (N : List Str) (vs : List V) : St := vs.map some ++ List.replicate (N.length - vs.length) none

/-- the context of a def's body, at its entry; an exception leaves the frame, then lies as CX says -/
def cxOf (CX : CXT) (P : Program) (w : World) (K : PySem.W.Frag) (mg : Str → Option Value) (base : Heap) (N : List Str) (qual : Str) (scope : Scope) (f : Addr) (cd : Value) (A : Around) (outer : List Env) (s : Shared) (H : Hp) (E : XK) : Cx where
  prog := P
  w := w
  K := K
  mg := mg
  base := base
  A := A.deeper (envOfC qual scope s.heap.objs.size f cd)
  N := N
  s₀ := s
  H₀ := H
  env := envOfC qual scope s.heap.objs.size f cd
  outer := outer
  stack := envOfC qual scope s.heap.objs.size f cd :: outer
  ex := []
  calm := true
  fn := fun _ => true
  pn := []
  xe := fun e s' => wpAny (model P w) (A.deeper (envOfC qual scope s.heap.objs.size f cd)) (leaving (envOfC qual scope s.heap.objs.size f cd) e) (fun _ s'' => CX outer H s E e s'') (fun e' s'' => CX outer H s E e' s'') s'

theorem cell_has {sc : Scope} {n : Nat} {x : Str} (h : sc.names.lookup x = some .cell) : ∃ c, (cellsFrom n sc.names []).lookup x = some c := by
  have q := PySem.W.cellsFrom_some sc.names n [] (.inl h)
  exact Option.isSome_iff_exists.mp q

theorem inv_start {CX : CXT} {P : Program} {w : World} {K : PySem.W.Frag} {mg : Str → Option Value} {base : Heap} {N ps : List Str} {qual : Str} {scope : Scope} {f : Addr} {cd : Value} {A : Around} {outer : List Env} {s s1 : Shared} {H : Hp} {E : XK} {us : List Value} {vs : List V}
    (S : FnScope N ps scope) (hd : A.handled = none) (e0 : Env0 P w K mg base A outer s H) (hl : vs.length = ps.length) (r : Vals vs us)
    (x : InCallC s s.heap.objs.size (bindL (envOfC qual scope s.heap.objs.size f cd).kindOf (ps.zip us) fun _ => none) (cellsFrom (s.heap.objs.size + 1) scope.names []) (bindC (envOfC qual scope s.heap.objs.size f cd).kindOf (ps.zip us) fun _ => none) s1) :
    Inv (cxOf CX P w K mg base N qual scope f cd A outer s H E) [] (start N vs) H s1 := by
  have hpl : ps.length ≤ N.length := by have := congrArg List.length S.pre; rw [List.length_take] at this; omega
  obtain ⟨h1, tk, rfl, hk⟩ := x.done
  have noA : ∀ b : Addr, b ∉ (cxOf CX P w K mg base N qual scope f cd A outer s H E).ex := fun b z => absurd (show b ∈ ([] : List Addr) from z) (by simp)
  refine ⟨⟨e0.mod, S.kind, rfl, rfl, Nat.le_refl _, fun y z c h1 h2 => ?_, fun y hy => ?_, fun y c _ h => ?_, fun _ => hd, Around.frames_deeper e0.frames, .inr ⟨rfl, rfl⟩, fun b z => absurd z (noA b), e0.bs, e0.bsz, fun b _ _ => noA b, fun b z => absurd z (noA b), e0.funs, e0.frf⟩,
    rfl, e0.bare, Un.kept hk, ⟨_, x.toInCall.ns, fun i y v h1 h2 h3 => ?_⟩, fun y c h => ⟨_, x.cell y c h⟩, e0.hok.fresh (Nat.le_refl _), fun y c h => ?_, fun p hp => absurd (show p ∈ ([] : List (Addr × Obj)) from hp) (by simp), e0.hok.kept hk, ?_⟩
  · exact name_of_addr x.apart (PySem.mem_of_lookup h1) (PySem.mem_of_lookup h2)
  · have hy : scope.names.lookup y = some .cell ∨ scope.names.lookup y = some .free := hy
    rcases hy with hy | hy
    · exact cell_has hy
    · exact absurd rfl (S.nofree _ (PySem.mem_of_lookup hy))
  · exact Nat.le_of_lt (x.above y c (PySem.mem_of_lookup h))
  · have hi : i < vs.length := by
      unfold start at h2
      by_cases hi : i < vs.length
      · exact hi
      · rw [List.getElem?_append_right (by simpa using hi)] at h2
        rw [List.getElem?_replicate] at h2
        split at h2 <;> cases h2
    have ha : vs[i]? = some v := by
      unfold start at h2
      rw [List.getElem?_append_left (by simpa using hi), List.getElem?_map] at h2
      cases e : vs[i]? with
      | none => rw [e] at h2; cases h2
      | some a => rw [e] at h2; cases h2; rfl
    obtain ⟨u, hu, rv⟩ := r.get ha
    have hp : ps[i]? = some y := by
      rw [← S.pre, List.getElem?_take_of_lt (by omega)]; exact h1
    have ndP : ps.Nodup := by rw [← S.pre]; exact S.nd.sublist (List.take_sublist _ _)
    refine ⟨u, rv, ?_⟩
    rcases S.par y (List.mem_of_getElem? hp) with k | k
    · exact .inl ⟨k, bindL_get ndP hp hu k⟩
    · obtain ⟨c, e⟩ := cell_has (n := s.heap.objs.size + 1) k
      refine .inr ⟨.inl k, c, e, ?_⟩
      have q := x.cell y c e
      rw [bindC_get ndP hp hu (by show scope.names.lookup y ≠ _; rw [k]; decide)] at q
      exact q
  · exact e0.hok.fresh (Nat.le_of_lt (x.above y c (PySem.mem_of_lookup h)))
  · unfold start
    show _ = N.length
    rw [List.length_append, List.length_map, List.length_replicate]
    omega

/-- THE RULE: a def (or a method) of the text, by its body. The body's reading t is chosen for each entry; it is run at the parameters' values -/
theorem fn_of {CX : CXT} {P : Program} {w : World} {K : PySem.W.Frag} {mg : Str → Option Value} {base : Heap} {k : Nat} {f : Addr} {name qual : Str} {params : Arguments} {body : List Stmt} {scope : Scope} {dV kV doc pm cdv ct oc : Value} {an od : Option Addr}
    {osl : Array (Option Value)} {N ps : List Str} {sp : Sp} (lk : K.lookup f = some ⟨oc, od, .func (PySem.W.fnOf name qual params body scope dV kV doc pm an cdv ct), osl⟩) (hcd : PySem.W.codeIn K cdv qual = true) (S : FnScope N ps scope)
    (len : ∀ vs H Q E, sp vs H Q E → vs.length = ps.length)
    (hbody : ∀ (A : Around) (outer : List Env) (s : Shared) (H : Hp) (vs : List V) (Q : VK) (E : XK), Room k (A.deeper (envOfC qual scope s.heap.objs.size f cdv)) → sp vs H Q E →
      ∃ t, PSs (cxOf CX P w K mg base N qual scope f cdv A outer s H E) body t ∧ t { nx := fun _ H' => Q .non H', rt := Q } (start N vs) H) :
    FnOk P w K mg base CX (k + 1) f (PySem.W.fnOf name qual params body scope dV kV doc pm an cdv ct) ps sp := by
  refine ⟨len, fun A outer s H args us vs Q E hr e0 hb r hsp => ?_⟩
  have hl := len _ _ _ _ hsp
  have KX : K.In s.heap := e0.mod.kin.keeps fun b o e => (e0.bs b o e).1
  have lim : s.heap.NoLimit := e0.mod.nolimit.keeps fun b o e => (e0.bs b o e).1
  have hkind : ∀ y ∈ ps.zip us, scope.names.lookup y.1 = some .local ∨ (scope.names.lookup y.1 = some .cell ∧ ((cellsFrom (s.heap.objs.size + 1) scope.names []).lookup y.1).isSome = true) := fun ⟨n, v⟩ hy => by
    rcases S.par n (List.of_mem_zip hy).1 with q | q
    · exact .inl q
    · exact .inr ⟨q, PySem.W.cellsFrom_some _ _ _ (.inl q)⟩
  refine codeAny_call_function hr.depth (KX _ _ lk) rfl S.co S.gen rfl (PySem.W.codeRec_of KX hcd) (hb _ _ _ _ ?_)
  refine wpAny_newFunctionEnv_cells S.kind hkind fun env he s1 x => ?_
  subst he
  refine ⟨lim.keeps x.toInCall.keep, codeAny_func ?_⟩
  obtain ⟨t, ht, hq⟩ := hbody A outer s H vs Q E (hr.deeper _) hsp
  have I : Inv (cxOf CX P w K mg base N qual scope f cdv A outer s H E) [] (start N vs) H s1 := inv_start S hr.hd e0 hl r x
  refine wpAny_mono (ht [] s1 (start N vs) H _ I hq) (fun fl s' hs => ?_) fun e s' hs => hs
  have fin : ∀ {σ' : St} {H' : Hp} {v : V} {u : Value}, Inv (cxOf CX P w K mg base N qual scope f cdv A outer s H E) [] σ' H' s' → RelV v u → Q v H' → CE outer P w H s Q u s' :=
    fun {σ' H' v u} J rv q => ⟨v, H', J.os, J.bare, J.base, J.hok, rv, q⟩
  cases fl with
  | ret u =>
    obtain ⟨v, σ', H', J, rv, q⟩ := hs
    exact fin J rv q
  | next =>
    obtain ⟨σ', H', J, q⟩ := hs
    exact fin (v := V.non) (u := Value.none) J rfl q
  | brk =>
    obtain ⟨_, _, _, q⟩ := hs
    exact False.elim q
  | cont =>
    obtain ⟨_, _, _, q⟩ := hs
    exact False.elim q
end L2

namespace L2
open PySem PySem.Spec PyProof.Rows
section
variable {X : Cx} {x : Str} {p pos : Pos} {e : Expr} {es : List Expr} {t : TA} {id T : String} {r : List V → Hp → VK → Prop}

def tCB (r : List V → Hp → VK → Prop) (t : TA) : TE := fun σ H Q => t σ H fun vs H1 => r vs H1 Q
/-- f(e, ..), f a built-in function -/
theorem pe_callB (hc : CallR X (.builtin id) r) (hg : Gl X x) (hm : X.mg x = none) (hv : bootBuiltins x = some (.builtin id)) (ha : PA X (e :: es) t) (hn : x ≠ "__name__" := by decide) (hdb : (x == ("__debug__" : Str)) = false := by decide)
    (he : starEach (e :: es) X.env = (false, eval e X.env) :: starEach es X.env := by rfl) (hpl : (backTo pos (starEach es X.env)).any (·.1) = false := by rfl) : PE X (.Call (.Name x p) (e :: es) [] pos) (tCB r t) := by
  intro pins s σ H Q I h
  refine wpAny_Call_Name_kw (ld_blt I hg hm hv ?_ hn hdb)
  exact PyProof.Rows.callWith_builtin1 (thn (ha pos pins s σ H _ I h) fun us s1 ⟨vs, H1, I1, r1, q1⟩ => hc pins s1 σ H1 vs us Q I1 r1 q1) he hpl
/-- T(e, ..), T a built-in type -/
theorem pe_callTy (hc : CallR X (.type T) r) (hg : Gl X x) (hm : X.mg x = none) (hv : bootBuiltins x = some (.type T)) (ha : PA X (e :: es) t) (hn : x ≠ "__name__" := by decide) (hdb : (x == ("__debug__" : Str)) = false := by decide)
    (he : starEach (e :: es) X.env = (false, eval e X.env) :: starEach es X.env := by rfl) (hpl : (backTo pos (starEach es X.env)).any (·.1) = false := by rfl) : PE X (.Call (.Name x p) (e :: es) [] pos) (tCB r t) := by
  intro pins s σ H Q I h
  refine wpAny_Call_Name_kw (ld_blt I hg hm hv ?_ hn hdb)
  exact PyProof.Rows.callWith_type1 (thn (ha pos pins s σ H _ I h) fun us s1 ⟨vs, H1, I1, r1, q1⟩ => hc pins s1 σ H1 vs us Q I1 r1 q1) he hpl
end
end L2

namespace HT
open PySem PyProof.Rows



section
open PySem.SeqAt
open PySem.AutoSeq1 (wpAny_loadPart')
open PySem.MeetsSeq PySem.MeetsSeq2 PySem.MeetsSeq3

end

section
variable {prog : Program} {w : World} {A : Around} {E : Value → Shared → Prop} {s : Shared}



/-! ### t[a:b], not the whole -/

end
end HT

namespace L2
open PySem PySem.Spec PyProof.Rows

/-! ### the parts of a slice -/
abbrev TO := St → Hp → (Option Int → Hp → Prop) → Prop
/-- a slice's part (left out, or an int) -/
def PO (X : Cx) (e : Option Expr) (t : TO) : Prop :=
  ∀ (pins : List (Addr × Obj)) (s : Shared) (σ : St) (H : Hp) (Q : Option Int → Hp → Prop), Inv X pins σ H s → t σ H Q →
    wpAny (model X.prog X.w) X.A (evalPart e X.env) (fun u s' => ∃ o H', Inv X pins σ H' s' ∧ IsPart u o ∧ Q o H') X.xe s
def tPart (t : TE) : TO := fun σ H Q => t σ H fun x H1 => ∃ i, x = .int i ∧ Q (some i) H1

theorem intsAre_of {ns : List Int} : ∀ {us : List Value}, Vals (ns.map V.int) us → IntsAre us ns := by
  induction ns with
  | nil => intro us r; rw [List.map_nil] at r; cases r; exact .nil
  | cons n ns ih =>
    intro us r
    rw [List.map_cons] at r
    cases r with
    | cons r1 r2 =>
      obtain ⟨t, e⟩ := r1
      subst e
      exact .cons n t (ih r2)

section
variable {X : Cx} {e : Expr} {te : TE} {lo hi : Option Expr} {tl th : TO} {pos p2 : Pos}

theorem po_some (h : PE X e te) : PO X (some e) (tPart te) := by
  intro pins s σ H Q I hw
  rw [evalPart_some]
  refine thn (h pins s σ H _ I hw) fun u s1 ⟨x, H1, I1, r1, q1⟩ => ?_
  obtain ⟨i, rfl, q⟩ := q1
  obtain ⟨t, rfl⟩ := r1
  exact ⟨some i, H1, I1, .int i t, q⟩



/-! ### t < u, t + u -/
end
end L2

namespace L2
open PySem PySem.Spec PyProof.Rows

/-! ### places -/
/-- the place that an index of any sign means -/
def ixN (n : Nat) (i : Int) : Option Nat := if 0 ≤ i then (if i < n then some i.toNat else none) else if -(n : Int) ≤ i then some (i + n).toNat else none
def atI {α : Type} (xs : List α) (i : Int) : Option α := (ixN xs.length i).bind fun j => xs[j]?
theorem ixN_seq {n : Nat} {i : Int} {j : Nat} (h : ixN n i = some j) : seqIndex? i n = some j ∧ j < n ∧ -(n : Int) ≤ i ∧ i < n := by
  unfold ixN at h
  by_cases h0 : 0 ≤ i
  · rw [if_pos h0] at h
    by_cases h1 : i < n
    · rw [if_pos h1] at h
      have e : i.toNat = j := Option.some.inj h
      exact ⟨by rw [seqIndex_of h0 h1, e], by omega, by omega, h1⟩
    · rw [if_neg h1] at h; cases h
  · rw [if_neg h0] at h
    by_cases h1 : -(n : Int) ≤ i
    · rw [if_pos h1] at h
      have e : (i + n).toNat = j := Option.some.inj h
      exact ⟨by rw [seqIndex_neg (by omega) h1, e], by omega, h1, by omega⟩
    · rw [if_neg h1] at h; cases h
theorem atI_get {α : Type} {xs : List α} {i : Int} {v : α} (h : atI xs i = some v) : ∃ j, seqIndex? i xs.length = some j ∧ xs[j]? = some v ∧ j < xs.length ∧ -(xs.length : Int) ≤ i ∧ i < xs.length := by
  unfold atI at h
  cases e : ixN xs.length i with
  | none => rw [e] at h; cases h
  | some j =>
    rw [e] at h
    obtain ⟨h1, h2, h3, h4⟩ := ixN_seq e
    exact ⟨j, h1, h, h2, h3, h4⟩
theorem atI_nat {α : Type} {xs : List α} {j : Nat} {v : α} (h : xs[j]? = some v) : atI xs (j : Int) = some v := by
  have hj : j < xs.length := (List.getElem?_eq_some_iff.mp h).1
  have e : ixN xs.length (j : Int) = some j := by
    unfold ixN
    rw [if_pos (by omega), if_pos (by omega)]; simp
  unfold atI; rw [e]; exact h

/-! ### what may be subscripted -/
/-- what stands as an index of a plain subscript -/
def PlainIx (b : Expr) : Prop := ∀ o i, subscripted b false o i = operate [o, i] (getItem o i)
/-- a subscript by values -/
def IxR (X : Cx) (r : R2) : Prop :=
  ∀ (value slice : Expr) (pins : List (Addr × Obj)) (s : Shared) (σ : St) (H : Hp) (x y : V) (v u : Value) (Q : VK), Inv X pins σ H s → RelV x v → RelV y u → r x y H Q →
    subscripted slice false v u = operate [v, u] (getItem v u) → wpAny (model X.prog X.w) X.A (subscriptTail value slice v u) (EP X pins σ Q) X.xe s
/-- a call of a builtin's method by values: the receiver, the arguments -/
def MtR (X : Cx) (id : String) (r : V → List V → Hp → VK → Prop) : Prop :=
  ∀ (pins : List (Addr × Obj)) (s : Shared) (σ : St) (H : Hp) (x : V) (xs : List V) (v : Value) (us : List Value) (Q : VK), Inv X pins σ H s → RelV x v → Vals xs us → r x xs H Q →
    wpAny (model X.prog X.w) X.A (call (.builtin id) (v :: us)) (EP X pins σ Q) X.xe s
section
variable {X : Cx} {a b : Expr} {ta tb : TE} {pos : Pos}
/-- a[b] -/
theorem pe_ix {r : R2} (hr : IxR X r) (ha : PE X a ta) (hb : PE X b tb) (hs : PlainIx b) : PE X (.Subscript a b pos) (tOp r ta tb) := by
  intro pins s σ H Q I h
  exact Subscript_ (binT ha hb I h fun v u s2 x y H2 I2 rx ry q => hr a b pins s2 σ H2 x y v u Q I2 rx ry q (hs _ _))

def rIxL (K : PySem.W.Frag) : R2 := fun x y H Q => ∃ p xs i v, x = .ref p ∧ y = .int i ∧ SqL K H p xs ∧ atI xs i = some v ∧ Q v H
def rIxT (K : PySem.W.Frag) : R2 := fun x y H Q => ∃ p xs i v, x = .ref p ∧ y = .int i ∧ SqT K H p xs ∧ atI xs i = some v ∧ Q v H
theorem ix_list : IxR X (rIxL X.K) := by
  intro value slice pins s σ H x y v u Q I rx ry h hs
  obtain ⟨p, xs, i, z, rfl, rfl, hq, he, q⟩ := h
  cases rx
  obtain ⟨t, rfl⟩ := ry
  obtain ⟨its, r, pl, hz⟩ := I.list hq
  obtain ⟨j, h1, h2, h3, h4, h5⟩ := atI_get he
  obtain ⟨w, ew, rw'⟩ := r.get h2
  have hl := r.length
  have hn := line63
  have fin : EP X pins σ Q w s := ⟨z, H, I, rw', q⟩
  by_cases h0 : 0 ≤ i
  · have hj : i.toNat = j := by
      rw [seqIndex_of h0 h5] at h1
      exact Option.some.inj h1
    exact item_listR pl.isList h0 (by omega) (by rw [hj]; simpa using ew) fin hs
  · have hj : (i + (its.toArray.size : Int)).toNat = j := by
      rw [seqIndex_neg (by omega) h4] at h1
      rw [List.size_toArray, ← hl]
      exact Option.some.inj h1
    exact subscriptTail_builtinR (x := w) pl.isList.typeIs slot_list_getitem.lookup
      (wpAny_getItem_list_neg (Q := fun r s' => r = w ∧ EP X pins σ Q r s') pl.isList (by omega) (by rw [List.size_toArray] <;> omega) (by omega) (by rw [hj]; simpa using ew) ⟨rfl, fin⟩) hs
theorem ix_tup : IxR X (rIxT X.K) := by
  intro value slice pins s σ H x y v u Q I rx ry h hs
  obtain ⟨p, xs, i, z, rfl, rfl, hq, he, q⟩ := h
  cases rx
  obtain ⟨t, rfl⟩ := ry
  obtain ⟨its, r, pl, hz⟩ := I.tuple hq
  obtain ⟨j, h1, h2, h3, h4, h5⟩ := atI_get he
  obtain ⟨w, ew, rw'⟩ := r.get h2
  have hl := r.length
  have hn := line63
  have fin : EP X pins σ Q w s := ⟨z, H, I, rw', q⟩
  exact subscriptTail_builtinR (x := w) pl.typeIs slot_tuple_getitem.lookup
    (getItem_tuple (j := j) (Q := fun r s' => r = w ∧ EP X pins σ Q r s') pl (by omega) (by omega) (by rw [List.size_toArray, ← hl]; exact h1) (by simpa using ew) ⟨rfl, fin⟩) hs

/-! ### xs[i] = v, any sign -/
/-- the list's object behind a store -/
theorem mapSeq_set (its : List Value) (n j : Nat) (u : Value) : Obj.mapSeq (·.setIfInBounds j u) { cls := .type "list", data := .seq its.toArray n } = { cls := .type "list", data := .seq (its.set j u).toArray n } := by
  simp [Obj.mapSeq]
theorem Inv.lst {pins : List (Addr × Obj)} {σ : St} {H : Hp} {s : Shared} {p : Addr} {xs : List V} (I : Inv X pins σ H s) (h : H p = some (.lst xs)) :
    ∃ (its : List Value) (n : Nat), Vals xs its ∧ s.heap.get? p = some { cls := .type "list", data := .seq its.toArray n } ∧ xs.length ≤ sizeLine := by
  obtain ⟨z, its, n, r, e⟩ := I.hok p _ h
  exact ⟨its, n, r, e, z⟩
/-- the list at p is written by an update of its object -/
theorem Inv.lstUpd {pins : List (Addr × Obj)} {σ : St} {H : Hp} {s : Shared} {p : Addr} {xs ys : List V} {its its' : List Value} {n n' : Nat} {f : Obj → Obj} (I : Inv X pins σ H s) (h : H p = some (.lst xs))
    (ho : s.heap.get? p = some { cls := .type "list", data := .seq its.toArray n }) (hf : f { cls := .type "list", data := .seq its.toArray n } = { cls := .type "list", data := .seq its'.toArray n' }) (r : Vals ys its') (hz : ys.length ≤ sizeLine) (t : Nat) :
    Inv X pins σ (upd H p (.lst ys)) { s with heap := s.heap.update p f, toks := t } := by
  have e : (s.heap.update p f).get? p = some { cls := .type "list", data := .seq its'.toArray n' } := by
    rw [Heap.get?_update_self f ho (by rw [hf] <;> rfl), hf]
  refine I.write (x := p) (e := p) (by rw [h]; trivial) (.inl rfl) (fun b u hb q => (Heap.get?_update_other _ _ (Ne.symm hb)).trans q) ⟨_, e⟩ ?_
  exact ⟨hz, its', n', r, e⟩
def rSetL : V → V → V → Hp → (Hp → Prop) → Prop := fun o i v H Q => ∃ p xs k j, o = .ref p ∧ i = .int k ∧ H p = some (.lst xs) ∧ ixN xs.length k = some j ∧ Q (upd H p (.lst (xs.set j v)))
theorem set_list : PSet X rSetL := by
  intro pins s σ H o i v ov iv u Q I ro ri rv h
  obtain ⟨p, xs, k, j, rfl, rfl, hp, hj, q⟩ := h
  cases ro
  obtain ⟨t, rfl⟩ := ri
  obtain ⟨its, n, r, ho, hz⟩ := I.lst hp
  obtain ⟨h1, h2, h3, h4⟩ := ixN_seq hj
  have hl := r.length
  have hn := line63
  have I' : Inv X pins σ (upd H p (.lst (xs.set j v))) { s with heap := s.heap.update p (Obj.mapSeq (·.setIfInBounds j u)) } :=
    I.lstUpd hp ho (mapSeq_set its n j u) (r.set rv j) (by rw [List.length_set]; exact hz) s.toks
  by_cases h0 : 0 ≤ k
  · have hk : k.toNat = j := by
      rw [seqIndex_of h0 h4] at h1
      exact Option.some.inj h1
    exact PySem.W.ki_setAt ho h0 (by omega) (by rw [List.size_toArray, ← hl]; exact h4) (by rw [hk]; exact ⟨_, I', q⟩)
  · have hk : (k + (its.toArray.size : Int)).toNat = j := by
      rw [seqIndex_neg (by omega) h3] at h1
      rw [List.size_toArray, ← hl]
      exact Option.some.inj h1
    exact PySem.W.ki_setBack ho (by omega) (by rw [List.size_toArray, ← hl]; exact h3) (by omega) (by rw [hk]; exact ⟨_, I', q⟩)

/-! ### slices -/

/-! ### in, not in: flat items -/
def flatV : V → Bool
  | .non => true
  | .bl _ => true
  | .int _ => true
  | .str _ => true
  | _ => false
/-- == of flat values -/
def eqV : V → V → Bool
  | .non, .non => true
  | .bl a, .bl b => a == b
  | .bl a, .int b => (if a then 1 else 0) == b
  | .int a, .bl b => a == (if b then 1 else 0)
  | .int a, .int b => a == b
  | .str a, .str b => a == b
  | _, _ => false
theorem eqAt_V {A : Around} {s : Shared} {y x : V} {u v : Value} (ry : RelV y u) (rx : RelV x v) (fy : flatV y = true) (fx : flatV x = true) : SeqAt.EqAt A s u v (eqV y x) := by
  cases y with
  | non =>
    cases ry
    cases x with
    | non => cases rx; exact SeqAt.EqAt.same _
    | bl b => cases rx; exact SeqAt.EqAt.none_bool b
    | int b => obtain ⟨t, rfl⟩ := rx; exact SeqAt.EqAt.none_int b t
    | str b => obtain ⟨t, rfl⟩ := rx; exact SeqAt.EqAt.none_str b t
    | _ => exact absurd (show false = true from fx) Bool.false_ne_true
  | bl a =>
    cases ry
    cases x with
    | non => cases rx; exact SeqAt.EqAt.bool_none a
    | bl b => cases rx; exact SeqAt.EqAt.bool_bool a b
    | int b => obtain ⟨t, rfl⟩ := rx; exact SeqAt.EqAt.bool_int a b t
    | str b => obtain ⟨t, rfl⟩ := rx; exact SeqAt.EqAt.bool_str a b t
    | _ => exact absurd (show false = true from fx) Bool.false_ne_true
  | int a =>
    obtain ⟨t', rfl⟩ := ry
    cases x with
    | non => cases rx; exact SeqAt.EqAt.int_none a t'
    | bl b => cases rx; exact SeqAt.EqAt.int_bool a t' b
    | int b => obtain ⟨t, rfl⟩ := rx; exact SeqAt.EqAt.int_int a t' b t
    | str b => obtain ⟨t, rfl⟩ := rx; exact SeqAt.EqAt.int_str a t' b t
    | _ => exact absurd (show false = true from fx) Bool.false_ne_true
  | str a =>
    obtain ⟨t', rfl⟩ := ry
    cases x with
    | non => cases rx; exact SeqAt.EqAt.str_none a t'
    | bl b => cases rx; exact SeqAt.EqAt.str_bool a t' b
    | int b => obtain ⟨t, rfl⟩ := rx; exact SeqAt.EqAt.str_int a t' b t
    | str b => obtain ⟨t, rfl⟩ := rx; exact SeqAt.EqAt.str_str a t' b t
    | _ => exact absurd (show false = true from fx) Bool.false_ne_true
  | _ => exact absurd (show false = true from fy) Bool.false_ne_true
/-- the items' answers, read off the values (a value's own answer does not lean on its token) -/
def eqU (x : V) (u : Value) : Bool := match u with
  | .none => eqV .non x
  | .bool b => eqV (.bl b) x
  | .int i _ => eqV (.int i) x
  | .str z _ => eqV (.str z) x
  | _ => false
theorem eqU_of {x y : V} {u : Value} (r : RelV y u) (f : flatV y = true) : eqU x u = eqV y x := by
  cases y with
  | non => cases r; rfl
  | bl b => cases r; rfl
  | int i => obtain ⟨t, rfl⟩ := r; rfl
  | str z => obtain ⟨t, rfl⟩ := r; rfl
  | _ => exact absurd (show false = true from f) Bool.false_ne_true
theorem any_eqU {x : V} : ∀ {xs : List V} {us : List Value}, Vals xs us → xs.all flatV = true → us.any (eqU x) = xs.any fun y => eqV y x
  | _, _, .nil, _ => rfl
  | y :: xs, u :: us, .cons r t, f => by
    rw [List.all_cons, Bool.and_eq_true] at f
    rw [List.any_cons, List.any_cons, eqU_of r f.1, any_eqU t f.2]
theorem mem_eqAt {A : Around} {s : Shared} {x : V} {v : Value} (rx : RelV x v) (fx : flatV x = true) : ∀ {xs : List V} {us : List Value}, Vals xs us → xs.all flatV = true → ∀ u ∈ us, SeqAt.EqAt A s u v (eqU x u)
  | _, _, .nil, _ => fun u hu => by cases hu
  | y :: xs, u :: us, .cons r t, f => fun u' hu => by
    rw [List.all_cons, Bool.and_eq_true] at f
    rcases List.mem_cons.mp hu with rfl | hu
    · rw [eqU_of r f.1]; exact eqAt_V r rx f.1 fx
    · exact mem_eqAt rx fx t f.2 u' hu
def inV (x : V) (xs : List V) : Bool := xs.any fun y => eqV y x
/-- x in a list or tuple of flat items -/
def rIn (K : PySem.W.Frag) (neg : Bool) : R2 := fun x y H Q => ∃ p xs, y = .ref p ∧ (SqL K H p xs ∨ SqT K H p xs) ∧ flatV x = true ∧ xs.all flatV = true ∧ Q (.bl (if neg then !inV x xs else inV x xs)) H
theorem op_in_seq : OpR X (compareOp .In) (rIn X.K false) := by
  intro pins s σ H x y v u Q I rx ry h
  obtain ⟨p, xs, rfl, hq, fx, fs, q⟩ := h
  cases ry
  rcases hq with hq | hq
  · obtain ⟨its, r, pl, hz⟩ := I.list hq
    refine SeqAt.in_listAt (eqU x) pl.isList (fun w hw => mem_eqAt rx fx r fs w (by simpa using hw)) ⟨.bl _, H, I, rfl, ?_⟩
    rw [show its.toArray.any (eqU x) = its.any (eqU x) by simp, any_eqU r fs]
    exact q
  · obtain ⟨its, r, pl, hz⟩ := I.tuple hq
    refine SeqAt.in_tupleAt (eqU x) pl (fun w hw => mem_eqAt rx fx r fs w (by simpa using hw)) ⟨.bl _, H, I, rfl, ?_⟩
    rw [show its.toArray.any (eqU x) = its.any (eqU x) by simp, any_eqU r fs]
    exact q

/-! ### len, list(x), tuple(x) of any list or tuple that is read -/
theorem call_len_seq : CallR X (.builtin "len") (fun xs H Q => ∃ p ys, xs = [.ref p] ∧ (SqL X.K H p ys ∨ SqT X.K H p ys) ∧ Q (.int ys.length) H) := by
  intro pins s σ H xs us Q I r h
  obtain ⟨p, ys, rfl, hq, q⟩ := h
  obtain ⟨u, rfl, rx⟩ := vals1 r
  cases rx
  have hn := line63
  rcases hq with hq | hq
  · obtain ⟨its, r', pl, hz⟩ := I.list hq
    have hlen := r'.length
    exact Calls.call_len_list pl.isList (by simp only [List.size_toArray] <;> omega) ⟨.int ys.length, H, I.tok _, ⟨s.toks + 1, by rw [List.size_toArray, hlen]⟩, q⟩
  · obtain ⟨its, r', pl, hz⟩ := I.tuple hq
    have hlen := r'.length
    exact len_tuple pl (by simp only [List.size_toArray] <;> omega) ⟨.int ys.length, H, I.tok _, ⟨s.toks + 1, by rw [List.size_toArray, hlen]⟩, q⟩
theorem call_list_of : CallR X (.type "list") (fun xs H Q => ∃ p ys, xs = [.ref p] ∧ (SqL X.K H p ys ∨ SqT X.K H p ys) ∧ ∀ l, H l = none → Q (.ref l) (upd H l (.lst ys))) := by
  intro pins s σ H xs us Q I r h
  obtain ⟨p, ys, rfl, hq, q⟩ := h
  obtain ⟨u, rfl, rx⟩ := vals1 r
  cases rx
  have fin : ∀ (its : List Value), Vals ys its → ys.length ≤ sizeLine → ∀ (h' : Heap) (c' : Nat), (∀ b o', s.heap.get? b = some o' → h'.get? b = some o') →
      h'.get? s.heap.objs.size = some { cls := .type "list", dict := none, data := .seq its.toArray c', slots := #[] } → EP X pins σ Q (.ref s.heap.objs.size) { s with heap := h' } := fun its r' hz h' c' kp e =>
    ⟨.ref s.heap.objs.size, _, I.laid (t' := s.toks) kp (Nat.le_refl _) (show ObjOk X.prog X.w _ h' _ (.lst ys) from ⟨hz, its, c', r', e⟩), rfl, q _ (I.hok.fresh (Nat.le_refl _))⟩
  rcases hq with hq | hq
  · obtain ⟨its, r', pl, hz⟩ := I.list hq
    have hlen := r'.length
    obtain ⟨o, ho, hc, n, hd⟩ := pl.isList
    exact call_list_seq p (.inl rfl) ho hc hd (fun h' c' kp e => fin its r' hz h' c' kp e) (by simp only [List.size_toArray] <;> omega)
  · obtain ⟨its, r', pl, hz⟩ := I.tuple hq
    have hlen := r'.length
    obtain ⟨o, ho, hc, n, hd⟩ := pl
    exact call_list_seq p (.inr rfl) ho hc hd (fun h' c' kp e => fin its r' hz h' c' kp e) (by simp only [List.size_toArray] <;> omega)
theorem call_tuple_of : CallR X (.type "tuple") (fun xs H Q => ∃ p ys, xs = [.ref p] ∧ ((SqL X.K H p ys ∧ ∀ l, H l = none → Q (.ref l) (upd H l (.tup ys))) ∨ (SqT X.K H p ys ∧ Q (.ref p) H))) := by
  intro pins s σ H xs us Q I r h
  obtain ⟨p, ys, rfl, h⟩ := h
  obtain ⟨u, rfl, rx⟩ := vals1 r
  cases rx
  rcases h with ⟨hq, q⟩ | ⟨hq, q⟩
  · obtain ⟨its, r', pl, hz⟩ := I.list hq
    have hlen := r'.length
    refine call_tuple_list pl.isList (fun h' kp => ?_) (by simp only [List.size_toArray] <;> omega)
    have I1 : Inv X pins σ H { s with heap := h' } := I.kept (t' := s.toks) kp
    have I2 : Inv X pins σ (upd H h'.objs.size (.tup ys)) { s with heap := h'.push { cls := .type "tuple", data := .seq its.toArray } } :=
      I1.laid (t' := s.toks) (fun b o e => Heap.get?_push_of_some _ e) (Nat.le_refl _) (show ObjOk X.prog X.w _ _ _ (.tup ys) from ⟨hz, its, r', IsTup.new _ _⟩)
    exact ⟨.ref h'.objs.size, _, I2, rfl, q _ (I1.hok.fresh (Nat.le_refl _))⟩
  · obtain ⟨its, r', pl, hz⟩ := I.tuple hq
    exact call_tuple_same pl ⟨.ref p, H, I, rfl, q⟩

/-! ### the call of a builtin's method: o.m(..) -/
/-- the value is of that builtin type -/
def tyV (K : PySem.W.Frag) (T : String) (x : V) (H : Hp) : Prop := match x with
  | .str _ => T = "str"
  | .int _ => T = "int"
  | .ref p => (T = "list" ∧ ∃ xs, SqL K H p xs) ∨ (T = "tuple" ∧ ∃ o, K.lookup p = some o ∧ o.cls = .type "tuple" ∧ o.dict = none) ∨
      (T = "dict" ∧ ((∃ kvs, H p = some (.dK kvs)) ∨ ∃ kvs, H p = some (.dT kvs))) ∨ (T = "set" ∧ ∃ S n, H p = some (.set S n))
  | _ => False
theorem tyV_is {pins : List (Addr × Obj)} {σ : St} {H : Hp} {s : Shared} {T : String} {x : V} {v : Value} (I : Inv X pins σ H s) (r : RelV x v) (ty : tyV X.K T x H) :
    s.TypeIs v T ∧ ∀ a, v = .ref a → ∃ ob, s.heap.get? a = some ob ∧ ob.dict = none := by
  cases x with
  | str z =>
    obtain ⟨t, rfl⟩ := r
    cases (show T = "str" from ty)
    exact ⟨typeIs_str s z t, fun _ e => nomatch e⟩
  | int i =>
    obtain ⟨t, rfl⟩ := r
    cases (show T = "int" from ty)
    exact ⟨typeIs_int s i t, fun _ e => nomatch e⟩
  | ref p =>
    cases r
    rcases ty with ⟨rfl, xs, hq⟩ | ⟨rfl, o, hk, hc, hd⟩ | ⟨rfl, hk⟩ | ⟨rfl, S, n, hk⟩
    · obtain ⟨its, _, pl, _⟩ := I.list hq
      refine ⟨pl.isList.typeIs, fun a e => ?_⟩
      cases e
      obtain ⟨o, n, e, c, hd, _⟩ := pl
      exact ⟨o, e, hd⟩
    · refine ⟨⟨o, I.kIn p o hk, hc⟩, fun a e => ?_⟩
      cases e
      exact ⟨o, I.kIn _ o hk, hd⟩
    · have z : ∃ o, s.heap.get? p = some o ∧ o.ExactDict := by
        rcases hk with ⟨kvs, hk⟩ | ⟨kvs, hk⟩
        · obtain ⟨_, _, _, _, o, _, _, e, ex, _⟩ := I.hok p _ hk
          exact ⟨o, e, ex⟩
        · obtain ⟨_, _, _, _, o, _, _, e, ex, _⟩ := I.hok p _ hk
          exact ⟨o, e, ex⟩
      obtain ⟨o, e, ex⟩ := z
      refine ⟨⟨o, e, ex.1⟩, fun a e2 => ?_⟩
      cases e2
      exact ⟨o, e, ex.2.1⟩
    · obtain ⟨o, _, _, _, e, ex, _⟩ := I.hok p _ hk
      refine ⟨⟨o, e, ex.1⟩, fun a e2 => ?_⟩
      cases e2
      exact ⟨o, e, ex.2.1⟩
  | _ => exact False.elim ty
def tBM (K : PySem.W.Frag) (T : String) (r : V → List V → Hp → VK → Prop) (to : TE) (t : TA) : TE := fun σ H Q => to σ H fun x H1 => tyV K T x H1 ∧ t σ H1 fun xs H2 => r x xs H2 Q
variable {o e : Expr} {es : List Expr} {to : TE} {t : TA} {name : Str} {apos cpos : Pos} {T id : String} {r : V → List V → Hp → VK → Prop}
theorem pe_bm (pa : PlainAttrs T) (slot : Slot T name id) (hty : typeOf (.builtin id) = pure (.type "method_descriptor")) (hm : MtR X id r) (ho : PE X o to) (ha : PA X (e :: es) t)
    (hbase : attributeBase o name X.env (eval o X.env) = eval o X.env := by rfl)
    (hfew : ((backTo cpos (starEach (e :: es) X.env)).all (fun x => !x.1) && (backToKw cpos (keywordEach [] X.env)).all (fun x => x.1.isSome)
      && decide ((e :: es).length + ([] : List Keyword).length + (if ([] : List Keyword).isEmpty then 0 else 1) < 30)) = true := by rfl)
    (hline : (apos.endLine == cpos.line) = true := by rfl) (hs : starEach (e :: es) X.env = (false, eval e X.env) :: starEach es X.env := by rfl) (hplain : (backTo cpos (starEach es X.env)).any (·.1) = false := by rfl) :
    PE X (.Call (.Attribute o name apos) (e :: es) [] cpos) (tBM X.K T r to t) := by
  intro pins s σ H Q I h
  refine wpAny_Call_method_late hbase hfew hline rfl (thn (ho pins s σ H _ I h) fun v s1 ⟨x, H1, I1, r1, ty, q1⟩ => ?_)
  obtain ⟨h1, h2⟩ := tyV_is I1 r1 ty
  refine ⟨T, id, pa, slot, hty, h1, h2, ?_⟩
  have hA := ha cpos pins s1 σ H1 _ I1 q1
  rw [hs] at hA ⊢
  refine Calls.callWith_builtin (by show (false || (backTo cpos (starEach es X.env)).any (·.1)) = false; rw [hplain] <;> rfl) (Calls.evalArgs_plain ?_)
  exact thn hA fun us s2 ⟨vs, H2, I2, r2, q2⟩ => hm pins s2 σ H2 x vs v us Q I2 r1 r2 q2
/- xs.append(e), list.index on a module's tuple .. are MtR facts of 06m -/
end
end L2

namespace L2
open PySem PySem.Spec PyProof.Rows

def MtM (X : Cx) (id : String) (r : V → List V → Hp → VK → Prop) : Prop :=
  ∀ (pins : List (Addr × Obj)) (s : Shared) (σ : St) (H : Hp) (x : V) (xs : List V) (v : Value) (us : List Value) (Q : VK), Inv X pins σ H s → RelV x v → Vals xs us → r x xs H Q →
    wpAny (model X.prog X.w) X.A (call (.builtin id) (v :: us)) (EP X pins σ Q) X.xe s

/-! ### lists of values -/
theorem Vals.one : ∀ {x : V} {us : List Value}, Vals [x] us → ∃ u, us = [u] ∧ RelV x u
  | _, _, .cons r .nil => ⟨_, rfl, r⟩

section
variable {X : Cx} {pins : List (Addr × Obj)} {σ : St} {H : Hp} {s : Shared} {l b : Addr} {xs ys zs : List V}

/-! ### the two steps: a tracked list is rewritten, a new list is laid -/
theorem Inv.lset {its its' : List Value} {n : Nat} {f : Array Value → Array Value} {t' : Nat} (I : Inv X pins σ H s) (hH : H l = some (.lst xs))
    (e : s.heap.get? l = some { cls := .type "list", data := .seq its.toArray n }) (hf : f its.toArray = its'.toArray) (hv : Vals ys its') (hz : ys.length ≤ sizeLine) :
    Inv X pins σ (upd H l (.lst ys)) { s with heap := s.heap.update l (Obj.mapSeq f), toks := t' } := by
  have q := PySem.IsL.update e f
  rw [hf] at q
  refine I.write (x := l) (e := l) (by rw [hH]; exact trivial) (.inl rfl) (fun b' u hb hu => (Heap.get?_update_other s.heap (Obj.mapSeq f) (Ne.symm hb)).trans hu) ⟨_, q⟩ ?_
  exact ⟨hz, its', _, hv, q⟩
theorem Inv.fresh (I : Inv X pins σ H s) : H s.heap.objs.size = none := I.hok.fresh (Nat.le_refl _)
theorem Inv.lstM (I : Inv X pins σ H s) (hH : H l = some (.lst xs)) : xs.length ≤ sizeLine ∧ ∃ (its : List Value) (n : Nat), Vals xs its ∧ xs.length = its.length ∧ s.heap.get? l = some { cls := .type "list", data := .seq its.toArray n } := by
  obtain ⟨z, its, n, r, e⟩ := I.hok l _ hH
  exact ⟨z, its, n, r, r.length, e⟩

theorem notLongL {n : Nat} (h : n ≤ sizeLine) : Builtin.List.listTooLong n = false := by
  unfold Builtin.List.listTooLong
  exact decide_eq_false (by omega)
end

section
variable {X : Cx}

/-! ### methods -/
def rAppend : V → List V → Hp → VK → Prop := fun x vs H Q => ∃ l xs y, x = .ref l ∧ vs = [y] ∧ H l = some (.lst xs) ∧ xs.length < sizeLine ∧ Q .non (upd H l (.lst (xs ++ [y])))
theorem mt_append : MtM X "list.append" rAppend := by
  intro pins s σ H x vs v us Q I rx rv h
  obtain ⟨l, xs, y, rfl, rfl, hH, hz, q⟩ := h
  cases rx
  obtain ⟨u, rfl, ru⟩ := rv.one
  obtain ⟨z, its, n, r, hl, e⟩ := I.lstM hH
  refine call_meets F.slot_list_append ⟨_, e, rfl⟩ F.entry_list_append (F.args_list_append_2 _ _) (PySem.list_append l its.toArray n u (by rw [List.size_toArray]; omega)) ⟨e, ?_⟩
  refine ⟨.non, _, I.lset (its' := its ++ [u]) hH e (by simp) (r.append (.cons ru .nil)) ?_, rfl, q⟩
  rw [List.length_append, List.length_singleton]
  omega

def rExtend : V → List V → Hp → VK → Prop := fun x vs H Q => ∃ l b xs zs, x = .ref l ∧ vs = [.ref b] ∧ H l = some (.lst xs) ∧ H b = some (.lst zs) ∧ xs.length + zs.length ≤ sizeLine ∧ Q .non (upd H l (.lst (xs ++ zs)))
theorem mt_extend : MtM X "list.extend" rExtend := by
  intro pins s σ H x vs v us Q I rx rv h
  obtain ⟨l, b, xs, zs, rfl, rfl, hH, hB, hz, q⟩ := h
  cases rx
  obtain ⟨u, rfl, ru⟩ := rv.one
  cases ru
  obtain ⟨z, its, n, r, hl, e⟩ := I.lstM hH
  obtain ⟨z2, its2, n2, r2, hl2, e2⟩ := I.lstM hB
  have hsz : its.toArray.size + its2.toArray.size ≤ sizeLine := by rw [List.size_toArray, List.size_toArray]; omega
  have hlong : ¬ (!its.toArray.isEmpty && Builtin.List.listTooLong (its.toArray.size + its2.toArray.size)) = true := by
    rw [notLongL hsz, Bool.and_false]
    exact Bool.false_ne_true
  refine call_meets F.slot_list_extend ⟨_, e, rfl⟩ F.entry_list_extend (F.args_list_extend_2 _ _)
    (AutoSeq1.list_extend_list_list_0 l its.toArray n b its2.toArray n2 hlong (by rw [List.size_toArray]; omega) (by omega)) ⟨e, e2, ?_⟩
  refine ⟨.non, _, I.lset (its' := its ++ its2) hH e (by simp) (r.append r2) ?_, rfl, q⟩
  rw [List.length_append]
  omega





/-! ### list + list, list += list, list * int -/

/-! ### del xs[i] -/
end

/-! ### xs[a:b] = ys -/
section
variable {prog : Program} {w : World} {A : Around} {E : Value → Shared → Prop} {s : Shared}
end

section
variable {X : Cx}
end
end L2

namespace L2
open PySem PySem.Spec PyProof.Rows

/-! ### lists of pairs as tables -/
section
variable {κ : Type} [DecidableEq κ]
def valV (kvs : List (κ × V)) (k : κ) : Option V := (kvs.find? fun kv => decide (kv.1 = k)).map (·.2)
/-- in its place, or at the end -/
def putK (kvs : List (κ × V)) (k : κ) (v : V) : List (κ × V) :=
  if (kvs.any fun kv => decide (kv.1 = k)) = true then kvs.map (fun kv => if kv.1 = k then (kv.1, v) else kv) else kvs ++ [(k, v)]

theorem valV_pos {p : κ × V} {r : List (κ × V)} {k : κ} (e : p.1 = k) : valV (p :: r) k = some p.2 := by simp [valV, List.find?_cons, e]
theorem valV_neg {p : κ × V} {r : List (κ × V)} {k : κ} (e : ¬ p.1 = k) : valV (p :: r) k = valV r k := by simp [valV, List.find?_cons, e]
theorem valV_any (k : κ) : ∀ kvs : List (κ × V), (kvs.any fun kv => decide (kv.1 = k)) = (valV kvs k).isSome
  | [] => rfl
  | p :: r => by
    rw [List.any_cons]
    by_cases e : p.1 = k
    · simp only [valV_pos e, decide_eq_true e, Bool.true_or, Option.isSome_some]
    · rw [valV_neg e, decide_eq_false e, Bool.false_or]; exact valV_any k r
theorem length_putK (kvs : List (κ × V)) (k : κ) (v : V) : (putK kvs k v).length ≤ kvs.length + 1 := by
  unfold putK
  split
  · rw [List.length_map]; omega
  · rw [List.length_append, List.length_cons, List.length_nil]; omega
theorem putK_new {kvs : List (κ × V)} {k : κ} (v : V) (h : valV kvs k = none) : putK kvs k v = kvs ++ [(k, v)] := by
  unfold putK
  rw [valV_any, h]
  exact if_neg (by decide)

theorem RelO.isSome_eq {o : Option V} {u : Option Value} (r : RelO o u) : o.isSome = u.isSome := by
  cases o with
  | none => cases u with
    | none => rfl
    | some _ => exact (show False from r).elim
  | some _ => cases u with
    | none => exact (show False from r).elim
    | some _ => rfl

/-- raw tables of the same keys -/
theorem KV.val {kvs : List (κ × V)} {vs : List (κ × Value)} (r : KV kvs vs) (k : κ) : RelO (valV kvs k) (valueAt vs k) := by
  unfold KV at r
  induction r with
  | nil => exact True.intro
  | @cons p q ps qs h t ih =>
    obtain ⟨h1, h2⟩ := h
    by_cases e : p.1 = k
    · have e' : q.1 = k := h1.symm.trans e
      have b : valueAt (q :: qs) k = some q.2 := by simp [valueAt, List.find?_cons, e']
      rw [valV_pos e, b]; exact h2
    · have e' : ¬ q.1 = k := fun z => e (h1.trans z)
      have b : valueAt (q :: qs) k = valueAt qs k := by simp [valueAt, List.find?_cons, e']
      rw [valV_neg e, b]; exact ih
theorem KV.any {kvs : List (κ × V)} {vs : List (κ × Value)} (r : KV kvs vs) (k : κ) : (kvs.any fun kv => decide (kv.1 = k)) = vs.any fun kv => decide (kv.1 = k) := by
  unfold KV at r
  induction r with
  | nil => rfl
  | cons h t ih => rw [List.any_cons, List.any_cons, ih, h.1]
theorem KV.repl {kvs : List (κ × V)} {vs : List (κ × Value)} (r : KV kvs vs) (k : κ) {y : V} {u : Value} (ry : RelV y u) :
    KV (kvs.map fun kv => if kv.1 = k then (kv.1, y) else kv) (vs.map fun kv => if kv.1 = k then (kv.1, u) else kv) := by
  unfold KV at r ⊢
  induction r with
  | nil => exact .nil
  | @cons p q ps qs h t ih =>
    rw [List.map_cons, List.map_cons]
    refine .cons ?_ ih
    obtain ⟨h1, h2⟩ := h
    by_cases e : p.1 = k
    · rw [if_pos e, if_pos (h1.symm.trans e)]; exact ⟨h1, ry⟩
    · rw [if_neg e, if_neg (fun z => e (h1.trans z))]; exact ⟨h1, h2⟩
theorem KV.put {kvs : List (κ × V)} {vs : List (κ × Value)} (r : KV kvs vs) (k : κ) {y : V} {u : Value} (ry : RelV y u) : KV (putK kvs k y) (stored vs k u) := by
  unfold putK stored
  rw [r.any k]
  by_cases e : (vs.any fun kv => decide (kv.1 = k)) = true
  · rw [if_pos e, if_pos e]; exact r.repl k ry
  · rw [if_neg e, if_neg e]; exact Paired.snoc r ⟨rfl, ry⟩
theorem KV.length {kvs : List (κ × V)} {vs : List (κ × Value)} (r : KV kvs vs) : kvs.length = vs.length := Paired.length r
end


/-! ### a tracked dict, its keys ints and texts or tuples of these -/
theorem kV_is {P : Program} {w : World} {k : Key} {u : Value} (r : RelV (kV k) u) : (mixKind P w).is k u = true := by
  cases k with
  | inl i => obtain ⟨t, e⟩ := (show ∃ t, u = Value.int i t from r); subst e; exact mixKind_int P w i t
  | inr x => obtain ⟨t, e⟩ := (show ∃ t, u = Value.str x t from r); subst e; exact mixKind_str P w x t
theorem items_are {P : Program} {w : World} : ∀ {ks : List Key} {us : List Value}, Vals (ks.map kV) us → ItemsAre (mixKind P w) ks us
  | [], _, r => by rw [List.map_nil] at r; cases r; exact .nil
  | k :: ks, _, r => by
    rw [List.map_cons] at r
    cases r with
    | cons h t => exact .cons (kV_is h) (items_are t)

/-- raw entries of a dict with tuple keys -/
abbrev KT (H : Hp) : List (List Key × V) → List (List Key × Addr × Value) → Prop := Paired fun p q => p.1 = q.1 ∧ H q.2.1 = some (.tup (p.1.map kV)) ∧ RelV p.2 q.2.2
theorem KT.val {H : Hp} {kvs : List (List Key × V)} {xs : List (List Key × Addr × Value)} (r : KT H kvs xs) (k : List Key) : RelO (valV kvs k) ((atKey xs k).map (·.2)) := by
  induction r with
  | nil => exact True.intro
  | @cons p q ps qs h t ih =>
    obtain ⟨h1, _, h2⟩ := h
    by_cases e : p.1 = k
    · have e' : q.1 = k := h1.symm.trans e
      have b : atKey (q :: qs) k = some q.2 := by simp [atKey, List.find?_cons, e']
      rw [valV_pos e, b]; exact h2
    · have e' : ¬ q.1 = k := fun z => e (h1.trans z)
      have b : atKey (q :: qs) k = atKey qs k := by simp [atKey, List.find?_cons, e']
      rw [valV_neg e, b]; exact ih
theorem KT.repl {H : Hp} {kvs : List (List Key × V)} {xs : List (List Key × Addr × Value)} (r : KT H kvs xs) (k : List Key) {y : V} {u : Value} (ry : RelV y u) :
    KT H (kvs.map fun kv => if kv.1 = k then (kv.1, y) else kv) (xs.map (putAt k u)) := by
  induction r with
  | nil => exact .nil
  | @cons p q ps qs h t ih =>
    rw [List.map_cons, List.map_cons]
    refine .cons ?_ ih
    obtain ⟨h1, h2, h3⟩ := h
    unfold putAt
    by_cases e : p.1 = k
    · rw [if_pos e, if_pos (h1.symm.trans e)]; exact ⟨h1, h2, ry⟩
    · rw [if_neg e, if_neg (fun z => e (h1.trans z))]; exact ⟨h1, h2, h3⟩
theorem KT.put {H : Hp} {kvs : List (List Key × V)} {xs : List (List Key × Addr × Value)} (r : KT H kvs xs) (k : List Key) {b : Addr} {y : V} {u : Value} (hb : H b = some (.tup (k.map kV))) (ry : RelV y u) :
    KT H (putK kvs k y) (storedH xs k b u) := by
  have e : (kvs.any fun kv => decide (kv.1 = k)) = (atKey xs k).isSome := by
    rw [valV_any, (r.val k).isSome_eq, Option.isSome_map]
  unfold putK storedH
  rw [e]
  by_cases q : (atKey xs k).isSome = true
  · rw [if_pos q, if_pos q]; exact r.repl k ry
  · rw [if_neg q, if_neg q]; exact Paired.snoc r ⟨rfl, hb, ry⟩
theorem KT.keeps {H H' : Hp} {kvs : List (List Key × V)} {xs : List (List Key × Addr × Value)} (r : KT H kvs xs) (ht : ∀ b ys, H b = some (.tup ys) → H' b = some (.tup ys)) : KT H' kvs xs :=
  Paired.mapP r fun _ _ z => ⟨z.1, ht _ _ z.2.1, z.2.2⟩

section
variable {P : Program} {w : World} {H : Hp} {h : Heap} {a : Addr}
theorem rd_of {u : HO} (ok : HOk P w H h) (e : Rd H a u) : ObjOk P w H h a u := e.ok ok
theorem dk_rd {kvs : List (Key × V)} (ok : HOk P w H h) (e : Rd H a (.dK kvs)) : kvs.length ≤ sizeLine ∧ (a == sysModules) = false ∧ ∃ vs, KV kvs vs ∧ h.DictOf (mixKind P w) a vs :=
  show ObjOk P w H h a (.dK kvs) from rd_of ok e
theorem dk_of {kvs : List (Key × V)} (ok : HOk P w H h) (e : H a = some (.dK kvs)) : kvs.length ≤ sizeLine ∧ (a == sysModules) = false ∧ ∃ vs, KV kvs vs ∧ h.DictOf (mixKind P w) a vs := dk_rd ok (.inl e)
/-- a tracked tuple of ints and texts is a key -/
theorem key_of {ks : List Key} (ok : HOk P w H h) (e : H a = some (.tup (ks.map kV))) : (tupleKind (mixKind P w)).is h ks a := by
  obtain ⟨_, its, r, o, h1, h2, n, h3⟩ := (show ObjOk P w H h a (.tup (ks.map kV)) from ok a _ e)
  exact ⟨o, its.toArray, n, h1, h2, h3, by simpa using items_are r⟩
theorem dt_rd {kvs : List (List Key × V)} (ok : HOk P w H h) (e : Rd H a (.dT kvs)) : kvs.length ≤ sizeLine ∧ (a == sysModules) = false ∧
    ∃ xs, KT H kvs xs ∧ h.DictOfH (tupleKind (mixKind P w)) a xs := by
  obtain ⟨z, y, xs, r, o, es, ep, h1, h2, h3, h4, h5⟩ := (show ObjOk P w H h a (.dT kvs) from rd_of ok e)
  refine ⟨z, y, xs, r, o, es, ep, h1, h2, h3, h4, fun x hx => ?_, h5⟩
  have all : ∀ {l : List (List Key × V)} {m : List (List Key × Addr × Value)}, KT H l m → ∀ x ∈ m, (tupleKind (mixKind P w)).is h x.1 x.2.1 := by
    intro l m q
    induction q with
    | nil => intro x hx; exact nomatch hx
    | @cons p q ps qs hq t ih =>
      intro x hx
      rcases List.mem_cons.mp hx with e | hx
      · subst e
        exact key_of ok (by rw [← hq.1]; exact hq.2.1)
      · exact ih x hx
  exact all r x hx
theorem dt_of {kvs : List (List Key × V)} (ok : HOk P w H h) (e : H a = some (.dT kvs)) : kvs.length ≤ sizeLine ∧ (a == sysModules) = false ∧
    ∃ xs, KT H kvs xs ∧ h.DictOfH (tupleKind (mixKind P w)) a xs := dt_rd ok (.inl e)
end

/-- what the dict at a holds at the key y -/
def DGet (H : Hp) (a : Addr) (y : V) (r : Option V) : Prop :=
  (∃ kvs k, Rd H a (.dK kvs) ∧ y = kV k ∧ r = valV kvs k) ∨ ∃ kvs k b, Rd H a (.dT kvs) ∧ y = .ref b ∧ H b = some (.tup (k.map kV)) ∧ r = valV kvs k
/-- the heap behind a[y] = v -/
def DPut (H : Hp) (a : Addr) (y v : V) (H' : Hp) : Prop :=
  (∃ kvs k, H a = some (.dK kvs) ∧ y = kV k ∧ kvs.length < sizeLine ∧ H' = upd H a (.dK (putK kvs k v))) ∨
  ∃ kvs k b, H a = some (.dT kvs) ∧ y = .ref b ∧ H b = some (.tup (k.map kV)) ∧ kvs.length < sizeLine ∧ H' = upd H a (.dT (putK kvs k v))
theorem DGet.t {H : Hp} {a b : Addr} {kvs : List (List Key × V)} {k : List Key} (e : H a = some (.dT kvs)) (eb : H b = some (.tup (k.map kV))) : DGet H a (.ref b) (valV kvs k) := .inr ⟨kvs, k, b, .inl e, rfl, eb, rfl⟩
theorem DPut.k {H : Hp} {a : Addr} {kvs : List (Key × V)} {k : Key} {v : V} (e : H a = some (.dK kvs)) (hl : kvs.length < sizeLine) : DPut H a (kV k) v (upd H a (.dK (putK kvs k v))) := .inl ⟨kvs, k, e, rfl, hl, rfl⟩
theorem DPut.t {H : Hp} {a b : Addr} {kvs : List (List Key × V)} {k : List Key} {v : V} (e : H a = some (.dT kvs)) (eb : H b = some (.tup (k.map kV))) (hl : kvs.length < sizeLine) :
    DPut H a (.ref b) v (upd H a (.dT (putK kvs k v))) := .inr ⟨kvs, k, b, e, rfl, eb, hl, rfl⟩


section
variable {X : Cx} {pins : List (Addr × Obj)} {σ : St} {H : Hp} {s : Shared} {a : Addr} {y v : V} {u r : Value} {o : Option V} {A : Around} {E : Value → Shared → Prop}

theorem Inv.big (I : Inv X pins σ H s) : sysModules < s.heap.objs.size := by
  have h : mainGlobals < s.heap.objs.size := (I.mod.glob.keeps I.bk).lt
  exact Nat.lt_trans (by decide) h

/-- d[y], there -/
theorem d_getItem {Q : Value → Shared → Prop} (hu : A.units + 1 < cLine) (I : Inv X pins σ H s) (g : DGet H a y (some v)) (ry : RelV y u) (h : ∀ w' s', Inv X pins σ H s' → RelV v w' → Q w' s') :
    wpAny (model X.prog X.w) A (getItem (.ref a) u) Q E s := by
  rcases g with ⟨kvs, k, e, ey, l⟩ | ⟨kvs, k, b, e, ey, eb, l⟩
  · subst ey
    obtain ⟨z, hd, vs, rel, dd⟩ := dk_rd I.hok e
    obtain ⟨w', hw, rw'⟩ := RelO.some_of (v := v) (o := valueAt vs k) (by rw [l]; exact rel.val k)
    exact wpAny_getItem_of (kV_is ry) dd.mapOf hw (h w' _ (I.tok _) rw')
  · subst ey
    cases (show u = Value.ref b from ry)
    obtain ⟨z, hd, xs, rel, dd⟩ := dt_rd I.hok e
    obtain ⟨w', hw, rw'⟩ := RelO.some_of (v := v) (o := (atKey xs k).map (·.2)) (by rw [l]; exact rel.val k)
    obtain ⟨p, hp, hp2⟩ := Option.map_eq_some_iff.mp hw
    refine wpAny_getItem_heap (tupleKind_room_in1 hu) (key_of I.hok eb) dd hp ?_
    rw [hp2]
    exact h w' _ (I.tok _) rw'
theorem d_notIn {Q : Value → Shared → Prop} (hu : A.units + 1 < cLine) (I : Inv X pins σ H s) (g : DGet H a y o) (ry : RelV y u) (h : ∀ s', Inv X pins σ H s' → Q (.bool (!o.isSome)) s') :
    wpAny (model X.prog X.w) A (compareOp .NotIn u (.ref a)) Q E s := by
  rcases g with ⟨kvs, k, e, ey, l⟩ | ⟨kvs, k, b, e, ey, eb, l⟩
  · subst ey
    obtain ⟨z, hd, vs, rel, dd⟩ := dk_rd I.hok e
    refine wpAny_notIn_of (kV_is ry) hd dd.mapOf ?_
    rw [← (rel.val k).isSome_eq, ← l]
    exact h _ (I.tok _)
  · subst ey
    cases (show u = Value.ref b from ry)
    obtain ⟨z, hd, xs, rel, dd⟩ := dt_rd I.hok e
    refine wpAny_notIn_heap (tupleKind_room_in1 hu) (key_of I.hok eb) hd dd ?_
    have q := (rel.val k).isSome_eq
    rw [Option.isSome_map] at q
    rw [← q, ← l]
    exact h _ (I.tok _)
/-- a dict's object is replaced -/
theorem d_write {h' : Heap} {t' : Nat} {ob : HO} (I : Inv X pins σ H s) (mu : Mut (H a)) (hs : Heap.SameBut a s.heap h') (he : ∃ q, h'.get? a = some q) (new : ObjOk X.prog X.w (upd H a ob) h' a ob) :
    Inv X pins σ (upd H a ob) { s with heap := h', toks := t' } :=
  I.write (x := a) (e := a) mu (.inl rfl) (fun b q hb z => (hs.2 b hb).trans z) he new
theorem dk_new {P : Program} {w : World} {H' : Hp} {h' : Heap} {kvs : List (Key × V)} {vs : List (Key × Value)} (z : kvs.length ≤ sizeLine) (hd : (a == sysModules) = false) (rel : KV kvs vs) (dd : h'.DictOf (mixKind P w) a vs) :
    ObjOk P w H' h' a (.dK kvs) := ⟨z, hd, vs, rel, dd⟩
/-- d[y] = v -/
theorem d_setItem {H' : Hp} {Q : Unit → Shared → Prop} (hu : A.units + 1 < cLine) (I : Inv X pins σ H s) (g : DPut H a y v H') (ry : RelV y u) (rv : RelV v r) (h : ∀ s', Inv X pins σ H' s' → Q () s') :
    wpAny (model X.prog X.w) A (setItem (.ref a) u r) Q E s := by
  rcases g with ⟨kvs, k, e, ey, l, eH⟩ | ⟨kvs, k, b, e, ey, eb, l, eH⟩
  · subst ey eH
    obtain ⟨z, hd, vs, rel, dd⟩ := dk_of I.hok e
    have hz : vs.length ≤ sizeLine := by rw [← rel.length]; exact z
    have hl : (putK kvs k v).length ≤ sizeLine := by have := length_putK kvs k v; omega
    refine wpAny_setItem_pairs (hsz := hz) (kV_is ry) dd fun h' dd' hs => h _ ?_
    have he : ∃ q, h'.get? a = some q := let ⟨q, _, _, hq, _⟩ := dd'; ⟨q, hq⟩
    exact d_write I (by rw [e]; exact True.intro) hs he (dk_new hl hd (rel.put k rv) dd')
  · subst ey eH
    cases (show u = Value.ref b from ry)
    obtain ⟨z, hd, xs, rel, dd⟩ := dt_of I.hok e
    have hz : xs.length ≤ sizeLine := by rw [← Paired.length rel]; exact z
    have hl : (putK kvs k v).length ≤ sizeLine := by have := length_putK kvs k v; omega
    refine wpAny_setItem_heap (hsz := hz) (tupleKind_room_in1 hu) (key_of I.hok eb) dd fun h' dd' hs => h _ ?_
    obtain ⟨q, es, ep, hq, h2, h3, h4, _, h5⟩ := dd'
    refine d_write I (by rw [e]; exact True.intro) hs ⟨q, hq⟩ ⟨hl, hd, _, (rel.put k eb rv).keeps fun c ys ec => ?_, q, es, ep, hq, h2, h3, h4, h5⟩
    rw [upd_ne (ne_of ec e (fun z => nomatch z))]
    exact ec
end

section
variable {X : Cx} {pins : List (Addr × Obj)} {σ : St} {H : Hp} {s : Shared} {a : Addr} {kvs : List (Key × V)} {k : Key} {u : Value} {A : Around} {E : Value → Shared → Prop}
end


/-! ### readings and rules -/
/-- the element of a subscription, not a slice -/
def NoSl (i : Expr) : Prop := ∀ ov iv, subscripted i false ov iv = operate [ov, iv] (getItem ov iv)
theorem subD_of {prog : Program} {w : World} {A : Around} {E : Value → Shared → Prop} {s : Shared} {env : Env} {value slice : Expr} {pos : Pos} {T id : String} {Q : Value → Shared → Prop}
    (hl : typeLookup (.type T) "__getitem__" = pure (some (.builtin id))) (hs : NoSl slice)
    (h : wpAny (model prog w) A (eval value env) (fun o s₁ => wpAny (model prog w) A (eval slice env) (fun i s₂ => s₂.TypeIs o T ∧ wpAny (model prog w) A (getItem o i) Q E s₂) E s₁) E s) :
    wpAny (model prog w) A (eval (.Subscript value slice pos) env) Q E s := by
  refine Subscript_ (wpAny_mono h (fun o s₁ h₁ => wpAny_mono h₁ (fun i s₂ h₂ => ?_) fun _ _ x => x) fun _ _ x => x)
  obtain ⟨hT, h₂⟩ := h₂
  unfold subscriptTail
  refine wpAny_bind ?_
  rw [getitemInPython_of_ne hT.not_modules]
  refine wpAny_bind (wpAny_specialOf hT hl ?_)
  have fin : wpAny (model prog w) A (subscripted slice false o i) (fun r s₃ => wpAny (model prog w) A (letTemporaryGo value o r >>= fun _ => pure r) Q E s₃) E s₂ := by
    rw [hs o i]
    exact wpAny_operating (wpAny_mono h₂ (fun r s₃ h₃ => wpAny_bind (wpAny_letTemporaryGo (wpAny_pure h₃))) fun _ _ x => x)
  first
    | exact wpAny_pure (wpAny_bind fin)
    | exact wpAny_bind (wpAny_pure (wpAny_bind fin))
    | exact wpAny_bind fin

theorem dict_typeIs {X : Cx} {pins : List (Addr × Obj)} {σ : St} {H : Hp} {s : Shared} {a : Addr} {y : V} {o : Option V} (I : Inv X pins σ H s) (g : DGet H a y o) : s.TypeIs (.ref a) "dict" := by
  rcases g with ⟨kvs, k, e, _, _⟩ | ⟨kvs, k, b, e, _, _, _⟩
  · obtain ⟨_, _, vs, _, dd⟩ := dk_rd I.hok e
    exact dd.typeIs
  · obtain ⟨_, _, xs, _, dd⟩ := dt_rd I.hok e
    exact dd.typeIs

/-- d[y] -/
def tDGet (td ty : TE) : TE := fun σ H Q => td σ H fun x H1 => ty σ H1 fun y H2 => ∃ a v, x = .ref a ∧ DGet H2 a y (some v) ∧ Q v H2
def tDNotIn (ty td : TE) : TE := fun σ H Q => ty σ H fun y H1 => td σ H1 fun x H2 => ∃ a o, x = .ref a ∧ DGet H2 a y o ∧ Q (.bl (!o.isSome)) H2
/-- d[y] = v -/
def sDPut (td ty tv : TE) : TS := fun D σ H => tv σ H fun v H1 => td σ H1 fun x H2 => ty σ H2 fun y H3 => ∃ a H4, x = .ref a ∧ DPut H3 a y v H4 ∧ D.nx σ H4

section
variable {X : Cx} {o i e value : Expr} {pos pos' tpos : Pos} {td ty tv : TE}
theorem pe_dget (hu : X.A.units + 1 < cLine) (ho : PE X o td) (hi : PE X i ty) (hs : NoSl i) : PE X (.Subscript o i pos) (tDGet td ty) := by
  intro pins s σ H Q I h
  refine subD_of PySem.F.slot_dict_getitem.lookup hs (thn (ho pins s σ H _ I h) fun u s1 ⟨x, H1, I1, rx, q1⟩ => thn (hi pins s1 σ H1 _ I1 q1) fun iv s2 ⟨y, H2, I2, ry, a, v, ex, g, q2⟩ => ?_)
  subst ex
  obtain rfl : u = Value.ref a := rx
  exact ⟨dict_typeIs I2 g, d_getItem hu I2 g ry fun w' s3 I3 rw' => ⟨v, H2, I3, rw', q2⟩⟩
theorem pc_dnotin (hu : X.A.units + 1 < cLine) (hi : PE X i ty) (ho : PE X o td) : PC X .NotIn i o (tDNotIn ty td) := by
  intro pins s σ H Q I h
  refine thn (hi pins s σ H _ I h) fun iv s1 ⟨y, H1, I1, ry, q1⟩ => thn (ho pins s1 σ H1 _ I1 q1) fun u s2 ⟨x, H2, I2, rx, a, ov, ex, g, q2⟩ => ?_
  subst ex
  obtain rfl : u = Value.ref a := rx
  exact d_notIn hu I2 g ry fun s3 I3 => ⟨.bl (!ov.isSome), H2, I3, rfl, q2⟩
theorem ps_dput (hu : X.A.units + 1 < cLine) (ho : PE X o td) (hi : PE X i ty) (hv : PE X value tv) (hs : swapsWith value (some (.Subscript o i pos')) pos.line X.env = pure false) :
    PS X (.Assign [.Subscript o i pos'] value pos) (sDPut td ty tv) := by
  intro pins s σ H D I h
  refine wpAny_Assign_Subscript (thn (hv pins s σ H _ I h) fun r s1 ⟨v, H1, I1, rv, q1⟩ => thn (ho pins s1 σ H1 _ I1 q1) fun u s2 ⟨x, H2, I2, rx, q2⟩ => thn (hi pins s2 σ H2 _ I2 q2) fun iv s3 ⟨y, H3, I3, ry, a, H4, ex, g, q3⟩ => ?_) hs
  subst ex
  obtain rfl : u = Value.ref a := rx
  exact d_setItem hu I3 g ry rv fun s4 I4 => ⟨σ, H4, I4, q3⟩
end


/-! ### displays -/
theorem dk_empty {P : Program} {w : World} {H : Hp} (h : Heap) (hb : sysModules < h.objs.size) : ObjOk P w H (h.push { cls := .type "dict", data := .dict #[] }) h.objs.size (.dK []) :=
  ⟨Nat.zero_le _, beq_eq_false_iff_ne.mpr (Ne.symm (Nat.ne_of_lt hb)), [], .nil, Heap.DictOf.new h⟩
theorem dt_empty {P : Program} {w : World} {H : Hp} (h : Heap) (hb : sysModules < h.objs.size) : ObjOk P w H (h.push { cls := .type "dict", data := .dict #[] }) h.objs.size (.dT []) :=
  ⟨Nat.zero_le _, beq_eq_false_iff_ne.mpr (Ne.symm (Nat.ne_of_lt hb)), [], .nil, _, #[], 0, Heap.get?_push_size _ rfl, ⟨rfl, rfl, rfl⟩, rfl, rfl, List.nodup_nil⟩
/-- {}, to be a dict of the kind that is wanted -/
def tDNewK : TE := fun _ H Q => ∀ p, H p = none → Q (.ref p) (upd H p (.dK []))
def tDNewT : TE := fun _ H Q => ∀ p, H p = none → Q (.ref p) (upd H p (.dT []))
section
variable {X : Cx} {pos : Pos}
theorem pe_dnewK : PE X (.Dict [] [] pos) tDNewK := fun pins s σ H Q I h =>
  wpAny_Dict_empty ⟨.ref s.heap.objs.size, _, I.laid (a := s.heap.objs.size) (o := .dK []) (t' := s.toks) (fun _ _ q => Heap.get?_push_of_some _ q) (Nat.le_refl _) (dk_empty s.heap I.big), rfl, h _ (I.hok.fresh (Nat.le_refl _))⟩
theorem pe_dnewT : PE X (.Dict [] [] pos) tDNewT := fun pins s σ H Q I h =>
  wpAny_Dict_empty ⟨.ref s.heap.objs.size, _, I.laid (a := s.heap.objs.size) (o := .dT []) (t' := s.toks) (fun _ _ q => Heap.get?_push_of_some _ q) (Nat.le_refl _) (dt_empty s.heap I.big), rfl, h _ (I.hok.fresh (Nat.le_refl _))⟩
end




/-! ### methods -/
/-- a method call o.m(e) of a built-in, with one argument: what must be seen of the text -/
structure M1 (X : Cx) (o : Expr) (m : Str) (apos : Pos) (e : Expr) (cpos : Pos) : Prop where
  base : attributeBase o m X.env (eval o X.env) = eval o X.env
  few : ((backTo cpos (starEach [e] X.env)).all (fun x => !x.1) && (backToKw cpos (keywordEach [] X.env)).all (fun x => x.1.isSome)
    && decide (([e] : List Expr).length + ([] : List Keyword).length + (if ([] : List Keyword).isEmpty then 0 else 1) < 30)) = true
  line : (apos.endLine == cpos.line) = true
  trees : backTo cpos (starEach [e] X.env) = [(false, eval e X.env)]
structure M2 (X : Cx) (o : Expr) (m : Str) (apos : Pos) (e f : Expr) (cpos : Pos) : Prop where
  base : attributeBase o m X.env (eval o X.env) = eval o X.env
  few : ((backTo cpos (starEach [e, f] X.env)).all (fun x => !x.1) && (backToKw cpos (keywordEach [] X.env)).all (fun x => x.1.isSome)
    && decide (([e, f] : List Expr).length + ([] : List Keyword).length + (if ([] : List Keyword).isEmpty then 0 else 1) < 30)) = true
  line : (apos.endLine == cpos.line) = true
  trees : backTo cpos (starEach [e, f] X.env) = [(false, eval e X.env), (false, eval f X.env)]

/-- a is a dict, whatever its keys -/
def IsD (H : Hp) (a : Addr) : Prop := (∃ kvs, Rd H a (.dK kvs)) ∨ ∃ kvs, Rd H a (.dT kvs)
theorem isD_at {X : Cx} {pins : List (Addr × Obj)} {σ : St} {H : Hp} {s : Shared} {a : Addr} (I : Inv X pins σ H s) (d : IsD H a) :
    s.TypeIs (.ref a) "dict" ∧ (∀ b, Value.ref a = .ref b → ∃ ob, s.heap.get? b = some ob ∧ ob.dict = none) ∧ (a == sysModules) = false := by
  rcases d with ⟨kvs, e⟩ | ⟨kvs, e⟩
  · obtain ⟨_, hd, vs, _, dd⟩ := dk_rd I.hok e
    refine ⟨dd.typeIs, fun b q => ?_, hd⟩
    cases q
    obtain ⟨ob, _, _, h1, h2, _⟩ := dd
    exact ⟨ob, h1, h2.2.1⟩
  · obtain ⟨_, hd, xs, _, dd⟩ := dt_rd I.hok e
    refine ⟨dd.typeIs, fun b q => ?_, hd⟩
    cases q
    obtain ⟨ob, _, _, h1, h2, _⟩ := dd
    exact ⟨ob, h1, h2.2.1⟩

section
variable {X : Cx} {pins : List (Addr × Obj)} {σ : St} {H : Hp} {s : Shared} {a : Addr} {y d : V} {u r : Value} {o : Option V} {A : Around} {E : Value → Shared → Prop}
end

section
variable {X : Cx} {o e f : Expr} {apos cpos : Pos} {td ty tx : TE}
end

/-! ### dict(d): a copy -/
section
variable {X : Cx} {pins : List (Addr × Obj)} {σ : St} {H : Hp} {s : Shared} {a : Addr} {kvs : List (Key × V)} {A : Around} {E : Value → Shared → Prop}
end


section
variable {X : Cx} {pins : List (Addr × Obj)} {σ : St} {H : Hp} {s : Shared} {a : Addr} {y : V} {u : Value} {A : Around} {E : Value → Shared → Prop}
end
end L2

namespace Att
open PySem PySem.W PySem.Calls PyProof.Rows

/-! ### the script -/
theorem ints_of_wellAll {P : Params} {h : Heap} : ∀ (ns : List Int) (vs : List Value), WellAll P h vs (ns.map WData.int) → IntsAre vs ns := by
  intro ns
  induction ns with
  | nil =>
    intro vs w
    rw [List.map_nil] at w
    cases w
    exact .nil
  | cons n ns ih =>
    intro vs w
    rw [List.map_cons] at w
    cases w with
    | cons a b =>
      cases a
      exact .cons _ _ (ih _ b)

theorem script_of {l : OpenLaw} {n : Nat} (hn : l.most = some n) {P : Params} {h : Heap} {args : List WData} {vals : List Value}
    (hpre : l.row.toRowW.claim.pre args = true) (hwl : WellAll P h vals args) :
    ∃ a vs ns, vals = [Value.ref a] ∧ args = [WData.list (ns.map WData.int)] ∧ h.get? a = some { cls := .type "list", data := .seq vs.toArray } ∧ IntsAre vs ns ∧ ns.length ≤ n := by
  have hsh : WShape.hasAll [] args [.list .int] = true := (pre_splitW hpre).1
  have hc : l.pre.holds [] { args := args } = true := (pre_splitW hpre).2
  obtain ⟨d, r, rfl, h1, h2⟩ := hasAllW_cons hsh
  obtain rfl := hasAllW_nil h2
  obtain ⟨xs, rfl, h3⟩ := hasW_list h1
  obtain ⟨ns, rfl⟩ := items_int h3
  have hlen : ns.length ≤ n := by
    unfold OpenLaw.pre at hc
    have h4 : (WTm.not (.lt (.lit (.int (n : Int))) (.len (.arg 0)))).holds [] { args := [.list (ns.map .int)] } = true := by
      have h4 := (holds_andW hc).1
      rw [hn] at h4
      exact h4
    have h5 := condW_of h4 (w_not (w_lt w_lit (w_len_list (w_arg rfl))))
    rw [List.length_map] at h5
    refine Nat.le_of_not_lt fun q => ?_
    have q' : (n : Int) < ((ns.length : Nat) : Int) := by omega
    first
      | (rw [decide_eq_true q'] at h5; exact absurd h5 (by decide))
      | (simp at h5; omega)
  cases hwl with
  | cons w1 w2 =>
    cases w2
    cases w1 with
    | list ho hall => exact ⟨_, _, ns, rfl, rfl, ho, ints_of_wellAll ns _ hall, hlen⟩

theorem post_true (l : OpenLaw) (args : List WData) : l.row.toRowW.claim.post args (.bool true) args = true :=
  postW_of (r := l.row.toRowW) (X := (true == true))
    (show WShape.has [] (.bool true) .bool = true by first | rfl | decide | simp [WShape.has, WShape.arms, WShape.armsAll])
    (show (WTm.eq .res (.lit (.bool true))).value [] { args := args, res := some (.bool true), after := args } = some (.bool (true == true)) from w_eq_bool (w_res rfl) w_lit) rfl

/-! ### the attachment: holds_open's last premise (the goal 'hc' behind k_head) from a wpAny of the law's body -/

/-- the same from a codeAny of the CALL (for a layer whose function contracts speak of calls) -/
theorem attach_call {l : OpenLaw} {n : Nat} {q : Program} {loose : List Str} {XP : (Str → Option Value) → Heap → Prop} {YP : World → Heap → Prop} {d : DefRec}
    (hn : l.most = some n) (hdf : d.params.defaults = [])
    (call : ∀ (w : World) (s₀ s₁ : Shared) (mg mb : Str → Option Value) (fa : Addr) (o : Obj) (pm cd doc : Value) (a : Addr) (vs : List Value) (ns : List Int),
      Ground q loose [] XP w s₀ mg mb s₁.heap → YP w s₁.heap →
      s₁.heap.get? fa = some o → o.data = .func (docDef d.name d.params d.body d.scope pm cd doc) → s₁.heap.CodeRec cd d.name → mg d.name = some (.ref fa) →
      s₁.heap.get? a = some { cls := .type "list", data := .seq vs.toArray } → IntsAre vs ns → ns.length ≤ n → s₁.gens = #[] →
      codeAny (model l.prog w) callerA (.call (.ref fa) ⟨[.ref a], []⟩) (fun r s' => r = .ok (.ret (.bool true)) ∧ OldK s₁.heap s'.heap ∧ s'.os = s₁.os ∧ AllBare s'.gens) s₁) :
    WalkO q loose XP YP l.row.toRowW d [] (fun f vs => PySem.call f vs) := by
  intro w s₀ s₁ mg mb G Y fa o pm cd doc dV kV ho hd hcd hD hmg hg args vals as hpre hlay hrd hwl hlo
  obtain rfl : dV = .none := Dflts.none hD hdf
  obtain rfl : kV = .none := Dflts.noKw hD
  obtain ⟨a, vs, ns, rfl, rfl, hobj, hints, hlen⟩ := script_of hn hpre hwl
  refine enter_call (codeAny_mono (call w s₀ s₁ mg mb fa o pm cd doc a vs ns G Y ho (fd_plain hd) hcd hmg hobj hints hlen hg) fun r s' hq => ?_)
  obtain ⟨rfl, h2, h3, h4⟩ := hq
  exact ⟨.inl ⟨.bool true, .bool true, [], rfl, fun _ => rfl, .bool true, post_true l _, fun _ => ⟨List.Pairwise.nil, fun _ hm => (nomatch hm)⟩⟩, h2, h3, h4⟩


/-! ### rules over ANY heap (no ledger) from facts about the written part K: the library's own take a ledger (News) for what they write -/
section
variable {prog : Program} {w : World} {A : Around} {E : Value → Shared → Prop} {s : Shared} {K : Frag}





/-! the whole heap as the ledger: makes every rule that writes through a ledger a rule over any heap -/

end
end Att

namespace L2
open PySem PySem.Spec PyProof.Rows

theorem vals_ints : ∀ {vs : List Value} {ns : List Int}, IntsAre vs ns → Vals (ns.map V.int) vs
  | _, _, .nil => .nil
  | _, _, .cons n t h => .cons ⟨t, rfl⟩ (vals_ints h)

/-- nothing is tracked but the script, known to the object (or it is an object of the module) -/
def Only (H : Hp) : Prop := ∀ b, H b = none ∨ ∃ o xs, H b = some (.frz o (.lst xs))

/-- THE HEAD: the law's promise, at the heap behind the top. F, the promise of the law's def, may use that base is part of the heap (so K.In base, base.Ns mainGlobals mg stand in Mod) -/
theorem law_call {P : Program} {w : World} {K : PySem.W.Frag} {mg mb : Str → Option Value} {CX : CXT} {k : Nat} {fa a : Addr} {fd : FuncData} {x : Str} {sp : Sp} {s₁ : Shared} {vs : List Value} {ns : List Int}
    (KX : K.In s₁.heap) (hns : s₁.heap.Ns mainGlobals mg) (hb : s₁.heap.Ns builtinsNs mb) (hbb : ∀ x : Str, x ≠ "__name__" → mb x = bootBuiltins x) (hlim : s₁.heap.NoLimit) (hg : s₁.gens = #[])
    (ha : s₁.heap.get? a = some { cls := .type "list", data := .seq vs.toArray }) (hi : IntsAre vs ns) (hl : ns.length ≤ sizeLine) (hr : Room k callerA)
    (F : ∀ base : Heap, K.In base → base.Ns mainGlobals mg → FnOk P w K mg base CX k fa fd [x] sp) (hbind : ∀ (s : Shared) (u : Value), BindsTo s fd ⟨[u], []⟩ [(x, u)])
    (hsp : ∀ H : Hp, Only H → SqL K H a (ns.map V.int) → sp [.ref a] H (fun v _ => v = .bl true) fun _ _ _ => False)
    (hCX : ∀ H e s', CX [] H s₁ (fun _ _ _ => False) e s' → False) :
    codeAny (model P w) callerA (.call (.ref fa) ⟨[.ref a], []⟩) (fun r s' => r = .ok (.ret (.bool true)) ∧ OldK s₁.heap s'.heap ∧ s'.os = s₁.os ∧ AllBare s'.gens) s₁ := by
  have rv := vals_ints hi
  have lenV := hi.length
  -- from an abstract heap in which nothing but the script may be tracked
  have core : ∀ H : Hp, Only H → SqL K H a (ns.map V.int) → HOk P w H s₁.heap → (∀ b, H b ≠ none → b = a) → (H a ≠ none → K.lookup a = none) →
      codeAny (model P w) callerA (.call (.ref fa) ⟨[.ref a], []⟩) (fun r s' => r = .ok (.ret (.bool true)) ∧ OldK s₁.heap s'.heap ∧ s'.os = s₁.os ∧ AllBare s'.gens) s₁ := by
    intro H hO hS hok hA hK
    have base_of : ∀ {b : Addr} {o : Obj}, s₁.heap.get? b = some o → H b = none → (hidT s₁.heap H).get? b = some o := fun e n => hidT_get e n
    have noA : ∀ {b : Addr} {o : Obj} {es : Array DictEntry} {ep : Nat}, s₁.heap.get? b = some o → o.data = .dict es ep → H b = none := fun {b o es ep} e d => by
      cases q : H b with
      | none => rfl
      | some u =>
        have e' : b = a := hA b (by rw [q]; simp)
        subst e'
        rw [ha] at e; cases e
        have d' : Data.seq vs.toArray _ = Data.dict es ep := d
        cases d'
    have nsK : ∀ {b : Addr} {m : Str → Option Value}, s₁.heap.Ns b m → (hidT s₁.heap H).Ns b m := fun {b m} ⟨o, es, ep, e, d, r⟩ => ⟨o, es, ep, base_of e (noA e d), d, r⟩
    have hKb : K.In (hidT s₁.heap H) := fun b o e => base_of (KX b o e) (by
      cases q : H b with
      | none => rfl
      | some u =>
        have e' : b = a := hA b (by rw [q]; simp)
        subst e'
        rw [hK (by rw [q]; simp)] at e; cases e)
    have hM : Mod K mg (hidT s₁.heap H) := ⟨hKb, nsK hns, ⟨mb, nsK hb, hbb⟩, let ⟨mc, h1, h2⟩ := hlim; ⟨mc, nsK h1, h2⟩⟩
    have e0 : Env0 P w K mg (hidT s₁.heap H) callerA [] s₁ H := ⟨rfl, hM, fun b o e => of_hidT e, Nat.le_of_eq (hidT_size _ _), trivial, fun b hb => absurd (show b ∈ ([] : List Addr) from hb) (by simp), hok, .of_eq hg⟩
    refine codeAny_mono ((F _ hKb (nsK hns)).run callerA [] s₁ H ⟨[.ref a], []⟩ [.ref a] [.ref a] _ _ hr e0 (hbind s₁ (.ref a)) (.cons rfl .nil) (hsp H hO hS)) fun r s' h => ?_
    cases r with
    | error e => exact (hCX H e s' h).elim
    | ok fl =>
      cases fl with
      | next => exact False.elim h
      | brk => exact False.elim h
      | cont => exact False.elim h
      | ret u =>
        obtain ⟨v, H', os, bare, un, hok', r', q⟩ := h
        have q' : v = .bl true := q
        subst q'
        obtain rfl : u = Value.bool true := r'
        refine ⟨rfl, OldK.of_keep fun b o e => ?_, os, bare⟩
        cases q : H b with
        | none => exact un.keep b o e q (by intro z; exact absurd (show b ∈ ([] : List Addr) from z) (by simp)) (by simp)
        | some u =>
          rcases hO b with z | ⟨ob, xs, z⟩
          · rw [q] at z; cases z
          · have z2 := un.frzs b ob _ z
            obtain ⟨e1, _⟩ := hok b _ z
            obtain ⟨e2, _⟩ := hok' b _ z2
            rw [e] at e1; cases e1
            exact e2
  cases hk : K.lookup a with
  | some o =>
    -- the script is one of the module's own objects
    have e := KX a o hk
    rw [ha] at e
    cases e
    refine core (fun _ => none) (fun _ => .inl rfl) (.inr ⟨_, vs.toArray, _, hk, rfl, rfl, rfl, by rw [List.size_toArray, lenV]; exact hl, by simpa using rv⟩) (fun b u z => by have z' : (none : Option HO) = some u := z; cases z') (fun b z => absurd rfl z) fun z => absurd rfl z
  | none =>
    refine core (fun b => if b = a then some (.frz { cls := .type "list", data := .seq vs.toArray } (.lst (ns.map V.int))) else none) (fun b => ?_) (.inl (.inr ⟨{ cls := .type "list", data := .seq vs.toArray }, if_pos rfl⟩)) (fun b u z => ?_) (fun b z => ?_) fun _ => hk
    · by_cases hb : b = a
      · exact .inr ⟨_, _, if_pos hb⟩
      · exact .inl (if_neg hb)
    · by_cases hb : b = a
      · have z' := (if_pos hb).symm.trans z
        cases z'
        subst hb
        exact ⟨ha, by rw [List.length_map]; exact hl, vs, _, rv, ha⟩
      · have z' := (if_neg hb).symm.trans z
        cases z'
    · by_cases hb : b = a
      · exact hb
      · exact absurd (if_neg hb) z
end L2

namespace L2
open PySem PySem.Spec PyProof.Rows


/-- the goal that k_head leaves (case hc), from the law's promise. F gives the function object fd (K's own) once, then the promise over every base -/
theorem walk_of {l : PySem.W.OpenLaw} {n k : Nat} {q : Program} {loose : List Str} {XP : (Str → Option Value) → Heap → Prop} {YP : World → Heap → Prop} {d : DefRec} {K : Params → PySem.W.Frag} {CX : World → CXT} {sp : World → Sp} {x : Str}
    (hn : l.most = some n) (hn2 : n ≤ sizeLine) (hdf : d.params.defaults = []) (hr : Room k callerA)
    (hY : ∀ (w : World) (h : Heap), YP w h → (K w.params).In h)
    (F : ∀ (w : World) (mg : Str → Option Value) (fa : Addr) (h : Heap), (K w.params).In h → h.Ns mainGlobals mg → mg d.name = some (.ref fa) →
      ∃ fd : FuncData, (∀ (s : Shared) (u : Value), BindsTo s fd ⟨[u], []⟩ [(x, u)]) ∧
        ∀ base : Heap, (K w.params).In base → base.Ns mainGlobals mg → FnOk l.prog w (K w.params) mg base (CX w) k fa fd [x] (sp w))
    (hsp : ∀ (w : World) (H : Hp) (a : Addr) (ns : List Int), ns.length ≤ n → Only H → SqL (K w.params) H a (ns.map V.int) → sp w [.ref a] H (fun v _ => v = .bl true) fun _ _ _ => False)
    (hCX : ∀ (w : World) (H : Hp) (s : Shared) (e : Value) (s' : Shared), CX w [] H s (fun _ _ _ => False) e s' → False) :
    PySem.W.WalkO q loose XP YP l.row.toRowW d [] (fun f vs => PySem.call f vs) := by
  refine Att.attach_call hn hdf fun w s₀ s₁ mg mb fa o pm cd doc a vs ns G Y ho hd hcd hmg hobj hints hlen hg => ?_
  have KX := hY w _ Y
  obtain ⟨fd, hb, hF⟩ := F w mg fa _ KX G.T.g hmg
  exact law_call KX G.T.g G.T.b G.T.builtins G.T.nolimit hg hobj hints (Nat.le_trans hlen hn2) hr hF hb (fun H hO hS => hsp w H a ns hlen hO hS) fun H e s' => hCX w H s₁ e s'
end L2

/- THE LAST THEOREM (shape; LID, My.* are yours):
   My.Adr: a structure of the addresses that your layer names (classes, functions); My.Txt K t: a structure (Prop) of the equations over K;
   My.txt_mk : {K} {implicit addresses ..} (e1 : nsIn K mainGlobals "law" = some (some (.ref f))) (e2 : K.lookup f = some ⟨oc, od, .func (fnOf "law" "law" params body scope dV kV doc pm an cdv ct), sl⟩) (e3 : codeIn K cdv "law" = true) .. : ∃ t, My.Txt K t

set_option maxHeartbeats 0 in
theorem PySem.Challenge.cw_LID_holds : PySem.Challenge.rw_LID.Holds := by
  w_on; o_law; k_head; (case hw => w_witness2)
  k_fill
  refine L2.walk_of (l := PySem.Challenge.rw_LID) (n := 63) (k := 40) (x := "script") (CX := fun w => ..) (sp := fun _ => My.sp_law) rfl (by decide) rfl ⟨rfl, by decide, by decide⟩ (fun w h Y => PySem.W.kIn_of Y) ?F ?S ?C
  case F =>
    intro w mg fa h KX G hmg
    have T : ∃ t, My.Txt (L2.KOf KX) t := by
      dsimp only [L2.KOf]                          -- K must stand as «<heap const> w.params» for k_is
      refine' My.txt_mk ?e1 ?e2 ?e3 ..
      (case e1 => PySem.W.k_is)                    -- in the order: a name -> its address -> its object -> its parts
      (case e2 => PySem.W.k_is)
      ..
    obtain ⟨t, T⟩ := T
    have e0 := hmg.symm.trans (PySem.W.mg_of KX G T.law)
    cases e0                                       -- fa is the law's own address
    exact ⟨_, fun s u => .of_eq rfl, fun base kb nb => My.law_fn T kb nb⟩     -- if «.of_eq rfl» comes too early: refine' ⟨_, ?b, fun base kb nb => My.law_fn T kb nb⟩; exact fun s u => .of_eq rfl
  case S => exact fun w H a ns hl hO hS => ..
  case C => exact ..
(the tactic k_is has no namespace: write k_is) -/

/-! SHORT WORDS over the layer: a def of the text, its body, what a loop and a test want. -/
namespace L2
open PySem PySem.Spec PyProof.Rows

/-! ### the text by places -/
/-- the j-th statement of a class's body -/
def inClass (s : Stmt) (j : Nat) : Stmt := match s with
  | .ClassDef _ _ _ body _ _ _ _ _ _ _ => body.getD j (.Pass ⟨0, 0, 0, 0⟩)
  | _ => .Pass ⟨0, 0, 0, 0⟩
def defArgs (s : Stmt) : Arguments := match s with
  | .FunctionDef _ a _ _ _ _ _ _ _ _ => a
  | _ => { posonlyargs := [], args := [], vararg := none, kwonlyargs := [], kw_defaults := [], kwarg := none, defaults := [] }
def defBody (s : Stmt) : List Stmt := match s with
  | .FunctionDef _ _ b _ _ _ _ _ _ _ => b
  | _ => []
def defScope (s : Stmt) : Scope := match s with
  | .FunctionDef _ _ _ _ _ _ sc _ _ _ => sc
  | _ => { kind := .function, names := [], isGenerator := false, isCoroutine := false }

/-! ### no exception leaves a def -/
abbrev CX0 : CXT := fun _ _ _ _ _ _ => False
abbrev E0 : XK := fun _ _ _ => False
theorem pass0 {X : Cx} : Passes CX0 X E0 := fun _ _ _ _ _ _ _ h => h.elim

/-! ### a def (or method) of the text as it stands behind the top -/
structure Fun (K : PySem.W.Frag) (x qual : Str) (st : Stmt) (f : Addr) (fd : FuncData) : Prop where
  ex : ∃ (oc : Value) (od : Option Addr) (kV doc pm : Value) (an : Option Addr) (cdv ct : Value) (osl : Array (Option Value)),
    fd = PySem.W.fnOf x qual (defArgs st) (defBody st) (defScope st) .none kV doc pm an cdv ct ∧ K.lookup f = some ⟨oc, od, .func fd, osl⟩ ∧ PySem.W.codeIn K cdv qual = true
  kp : PySem.W.keepIn K (.ref f) = true
section
variable {P : Program} {w : World} {K : PySem.W.Frag} {mg : Str → Option Value} {base : Heap}
/-- THE RULE for a def: its body as a term of rules, and the reading of that term -/
theorem Fun.ok {x qual : Str} {st : Stmt} {f : Addr} {fd : FuncData} {N ps : List Str} {k : Nat} {sp : Sp} (F : Fun K x qual st f fd) (S : FnScope N ps (defScope st)) (len : ∀ vs H Q E, sp vs H Q E → vs.length = ps.length)
    (hbody : ∀ (cdv : Value) (A : Around) (outer : List Env) (s : Shared) (H : Hp) (vs : List V) (Q : VK) (E : XK), Room k (A.deeper (envOfC qual (defScope st) s.heap.objs.size f cdv)) → sp vs H Q E →
      ∃ t, PSs (cxOf CX0 P w K mg base N qual (defScope st) f cdv A outer s H E).nox (defBody st) t ∧ t { nx := fun _ H' => Q .non H', rt := Q } (start N vs) H) : FnOk P w K mg base CX0 (k + 1) f fd ps sp := by
  obtain ⟨oc, od, kV, doc, pm, an, cdv, ct, osl, rfl, lk, hcd⟩ := F.ex
  refine fn_of lk hcd S len fun A outer s H vs Q E hr hsp => ?_
  obtain ⟨t, h, q⟩ := hbody cdv A outer s H vs Q E hr hsp
  exact ⟨t, h.nox, q⟩
/-- how its arguments bind (no defaults): h is «fun _ _ _ _ _ _ us hl => match us, hl with | [_, _], _ => rfl», one _ a parameter -/
theorem Fun.binds {x qual : Str} {st : Stmt} {f : Addr} {fd : FuncData} {ps : List Str} (F : Fun K x qual st f fd)
    (h : ∀ (kV doc pm : Value) (an : Option Addr) (cdv ct : Value) (us : List Value), us.length = ps.length → bindArgs (PySem.W.fnOf x qual (defArgs st) (defBody st) (defScope st) .none kV doc pm an cdv ct) ⟨us, []⟩ = pure (ps.zip us)) : Binds K fd ps [] := by
  obtain ⟨oc, od, kV, doc, pm, an, cdv, ct, osl, rfl, lk, hcd⟩ := F.ex
  exact .all (h kV doc pm an cdv ct)
theorem fun_mk {x qual : Str} {st : Stmt} {f : Addr} {oc : Value} {od an : Option Addr} {osl : Array (Option Value)} {kV doc pm cdv ct : Value} (l : K.lookup f = some ⟨oc, od, .func (PySem.W.fnOf x qual (defArgs st) (defBody st) (defScope st) .none kV doc pm an cdv ct), osl⟩)
    (c : PySem.W.codeIn K cdv qual = true) (k : PySem.W.keepIn K (.ref f) = true) : Fun K x qual st f (PySem.W.fnOf x qual (defArgs st) (defBody st) (defScope st) .none kV doc pm an cdv ct) := ⟨⟨oc, od, kV, doc, pm, an, cdv, ct, osl, rfl, l, c⟩, k⟩
end
theorem small1000 {n : Nat} (h : n ≤ 1000) : n < sizeLine := Nat.lt_of_le_of_lt h (by decide)

/-! ### expressions in short: the name that stands in the i-th slot -/
section
variable {X : Cx}
theorem pv (i : Nat) {x : Str} {pos : Pos} (hN : X.N[i]? = some x := by rfl) (hv : Vis X.env.scope x := by first | exact Or.inl rfl | exact Or.inr (Or.inl rfl) | exact Or.inr (Or.inr rfl)) (hd : (x == ("__debug__" : Str)) = false := by decide)
    (hcd : (x == ("__classdict__" : Str)) = false := by decide) : PE X (.Name x pos) (tVar i) := pe_var hN hv hd hcd
end

/-! ### tests -/
theorem iteF {A B : Prop} (h : B) : if false = true then A else B := by
  rw [if_neg Bool.false_ne_true]
  exact h
theorem iteT {A B : Prop} (h : A) : if true = true then A else B := by
  rw [if_pos rfl]
  exact h
theorem ite2 {c A B : Prop} [Decidable c] (h1 : c → A) (h2 : ¬ c → B) : if c then A else B := by
  by_cases h : c
  · rw [if_pos h]
    exact h1 h
  · rw [if_neg h]
    exact h2 h
theorem iteNS {c A B : Prop} [Decidable c] (hc : c) (h : B) : if (!decide c) = true then A else B := by
  rw [decide_eq_true hc]
  exact iteF h

/-! ### heaps -/
/-- all that was tracked is as it was -/
def Same (H H' : Hp) : Prop := ∀ b o, H b = some o → H' b = some o
theorem Same.refl (H : Hp) : Same H H := fun _ _ h => h
theorem Same.trans {H H1 H2 : Hp} (a : Same H H1) (b : Same H1 H2) : Same H H2 := fun c o h => b c o (a c o h)
theorem Same.seq {K : PySem.W.Frag} {H H' : Hp} {a : Addr} {xs : List V} (e : Same H H') (h : SqL K H a xs) : SqL K H' a xs := by
  rcases h with (h | ⟨o, h⟩) | h
  · exact .inl (.inl (e _ _ h))
  · exact .inl (.inr ⟨o, e _ _ h⟩)
  · exact .inr h

/-! ### a dict's pairs: keys that differ -/
section
variable {κ : Type} [DecidableEq κ]
end
end L2

set_option maxHeartbeats 4000000
namespace L2
open PySem PySem.Spec PyProof.Rows

/-! ### comprehensions -/
/-- the context of a comprehension's block -/
def cxC (X : Cx) (scope : Scope) (cl : List (Str × Addr)) (C : Addr) (N' : List Str) (s : Shared) (H : Hp) (fp : List Addr) (E : Value → Shared → Prop) : Cx where
  prog := X.prog
  w := X.w
  K := X.K
  mg := X.mg
  base := X.base
  A := X.A
  N := N'
  s₀ := s
  H₀ := H
  env := compEnvC scope cl C X.env
  outer := X.stack
  stack := X.stack
  ex := fp
  fn := fun _ => false
  calm := X.calm
  pn := []
  xe := E

theorem forIn_cells {env : Env} (f : Str × NameKind → List (Str × Addr) → Sem (ForInStep (List (Str × Addr)))) (hf : ∀ n k cs, f (n, k) cs = if (k == NameKind.free) = true then (cellOf env n >>= fun a => pure (ForInStep.yield ((n, a) :: cs))) else pure (ForInStep.yield cs)) :
    ∀ (l : List (Str × NameKind)) (cs : List (Str × Addr)), (∀ n, (n, NameKind.free) ∈ l → ∃ c, env.cells.lookup n = some c) → (∀ n c, cs.lookup n = some c → env.cells.lookup n = some c) →
      ∃ cl, forIn l cs f = (pure cl : Sem _) ∧ (∀ n c, cl.lookup n = some c → env.cells.lookup n = some c) ∧ (∀ n, (n, NameKind.free) ∈ l → ∃ c, cl.lookup n = some c) ∧ (∀ n c, cs.lookup n = some c → ∃ c', cl.lookup n = some c')
  | [], cs, _, hc => ⟨cs, rfl, hc, fun n hn => absurd hn (by simp), fun n c e => ⟨c, e⟩⟩
  | (n, k) :: l, cs, h, hc => by
    have hl : ∀ m, (m, NameKind.free) ∈ l → ∃ c, env.cells.lookup m = some c := fun m hm => h m (List.mem_cons_of_mem _ hm)
    by_cases hk : k = .free
    · subst hk
      obtain ⟨c, ec⟩ := h n List.mem_cons_self
      have hc' : ∀ m d, ((n, c) :: cs).lookup m = some d → env.cells.lookup m = some d := fun m d e => by
        rw [List.lookup_cons] at e
        by_cases q : m == n
        · rw [q] at e
          have := beq_iff_eq.mp q
          subst this
          rw [ec]; exact e
        · rw [Bool.eq_false_iff.mpr q] at e
          exact hc m d e
      obtain ⟨cl, e1, e2, e3, e4⟩ := forIn_cells f hf l ((n, c) :: cs) hl hc'
      refine ⟨cl, ?_, e2, fun m hm => ?_, fun m d e => ?_⟩
      · rw [List.forIn_cons, hf, if_pos (show (NameKind.free == NameKind.free) = true from rfl)]
        have : cellOf env n = pure c := by unfold cellOf; rw [ec]
        rw [this]
        exact e1
      · rcases List.mem_cons.mp hm with z | z
        · cases z
          exact e4 n c (by rw [List.lookup_cons]; simp)
        · exact e3 m z
      · by_cases q : m = n
        · subst q; exact e4 m c (by rw [List.lookup_cons]; simp)
        · exact e4 m d (by rw [List.lookup_cons, beq_eq_false_iff_ne.mpr q]; exact e)
    · obtain ⟨cl, e1, e2, e3, e4⟩ := forIn_cells f hf l cs hl hc
      refine ⟨cl, ?_, e2, fun m hm => ?_, e4⟩
      · rw [List.forIn_cons, hf, if_neg (by simpa using hk)]
        exact e1
      · rcases List.mem_cons.mp hm with z | z
        · cases z; exact absurd rfl hk
        · exact e3 m z
theorem closure_of {env : Env} {scope : Scope} (h : ∀ n, (n, NameKind.free) ∈ scope.names → ∃ c, env.cells.lookup n = some c) :
    ∃ cl, closureFor scope env = pure cl ∧ (∀ n c, cl.lookup n = some c → env.cells.lookup n = some c) ∧ (∀ n, (n, NameKind.free) ∈ scope.names → ∃ c, cl.lookup n = some c) := by
  obtain ⟨cl, e1, e2, e3, _⟩ := forIn_cells (env := env) (fun x __s => match x with
    | (name, kind) => if (kind == NameKind.free) = true then (do let a ← cellOf env name; pure (ForInStep.yield ((name, a) :: __s))) else pure (ForInStep.yield __s)) (fun n k cs => rfl) scope.names [] h (fun n c e => nomatch e)
  refine ⟨cl, ?_, e2, e3⟩
  unfold closureFor
  dsimp only
  rw [e1]
  all_goals rfl

/-- the tests of a clause -/
def PIf (X : Cx) (ifs : List Expr) (t : TT) : Prop :=
  ∀ (pins : List (Addr × Obj)) (s : Shared) (σ : St) (H : Hp) (Q : Bool → Hp → Prop), Inv X pins σ H s → t σ H Q →
    wpAny (model X.prog X.w) X.A (forIn ifs true fun c r => if r = true then do let ok ← isTrue c X.env (eval c X.env); pure (ForInStep.yield ok) else pure (ForInStep.yield r)) (TP X pins σ Q) X.xe s
def tYes : TT := fun _ H Q => Q true H
theorem tYes_of {σ : St} {H : Hp} {A B : Hp → Prop} (h : A H) : tYes σ H fun b H3 => if b = true then A H3 else B H3 := by
  show if true = true then A H else B H
  rw [if_pos rfl]
  exact h
theorem pif_nil {X : Cx} : PIf X [] tYes := fun _ _ _ H _ I h => wpAny_tests_nil ⟨H, I, h⟩

theorem compLoop_any {prog : Program} {w : World} {A : Around} {R : Result → Shared → Prop} {s : Shared} {elt target iter : Expr} {ifs : List Expr} {scope : Scope} {pos : Pos} {it acc : Value} {env : Env} (I : Nat → Shared → Prop)
    (turn : ∀ n s, I n s → wpAny (model prog w) A (pyNext it) (fun r s₁ => match r with
      | none => R (.ok .next) s₁
      | some v => wpAny (model prog w) A (letOwnedTupleGo target it v) (fun _ s₁' => wpAny (model prog w) A (assign target env v) (fun _ s₂ =>
          wpAny (model prog w) A (forIn ifs true fun c r => if r = true then do let ok ← isTrue c env (eval c env); pure (ForInStep.yield ok) else pure (ForInStep.yield r)) (fun ok s₃ =>
            if ok = true then wpAny (model prog w) A (eval elt env) (fun x s₄ =>
              wpAny (model prog w) A (call (.builtin "list.append") [acc, x]) (fun _ s₅ => ∃ m, m < n ∧ I m s₅) (notedBy (model prog w) A env fun e s' => R (.error e) s') s₄) (notedBy (model prog w) A env fun e s' => R (.error e) s') s₃
            else ∃ m, m < n ∧ I m s₃) (notedBy (model prog w) A env fun e s' => R (.error e) s') s₂) (notedBy (model prog w) A env fun e s' => R (.error e) s') s₁') (notedBy (model prog w) A env fun e s' => R (.error e) s') s₁) (notedBy (model prog w) A env fun e s' => R (.error e) s') s)
    (n : Nat) (h : I n s) :
    codeAny (model prog w) A (.compLoop (.ListComp elt [⟨target, iter, ifs, 0⟩] scope pos) 0 it acc env) R s := by
  refine codeAny_loop rfl I (fun n s hI => ?_) n h
  show wpAny _ A ((compTurn (.ListComp elt [⟨target, iter, ifs, 0⟩] scope pos) 0 it acc env).onRaise (fun x => do noteFrame x env; theTreesLotGoes x)) _ _ s
  refine wpAny_noted ?_
  rw [compTurn_list]
  refine wpAny_bind (wpAny_standAt (wpAny_bind (wpAny_mono (turn n s hI) (fun r s₁ h₁ => ?_) fun _ _ h' => h')))
  cases r with
  | none => exact wpAny_pure h₁
  | some v =>
    refine wpAny_bind (wpAny_mono h₁ (fun _ s₁' h₁' => ?_) fun _ _ h' => h')
    refine wpAny_bind (wpAny_mono h₁' (fun _ s₂ h₂ => wpAny_bind (wpAny_mono h₂ (fun ok s₃ h₃ => ?_) fun _ _ h' => h')) fun _ _ h' => h')
    cases ok with
    | false => exact wpAny_pure ⟨rfl, h₃⟩
    | true =>
      exact wpAny_bind (wpAny_bind (wpAny_mono h₃ (fun x s₄ h₄ => wpAny_bind (wpAny_mono h₄ (fun _ s₅ h₅ => wpAny_pure (wpAny_pure ⟨rfl, h₅⟩)) fun _ _ h' => h')) fun _ _ h' => h'))

theorem lookup_relabel_free {env : Env} : ∀ {names : List (Str × NameKind)} {x : Str}, names.lookup x = some .free →
    (names.map fun (n, k) => if (k == NameKind.free && env.scope.kind == .function && env.kindOf n == some .cell) then (n, NameKind.cell) else (n, k)).lookup x = some .cell ∨
    (names.map fun (n, k) => if (k == NameKind.free && env.scope.kind == .function && env.kindOf n == some .cell) then (n, NameKind.cell) else (n, k)).lookup x = some .free
  | [], _, h => by simp at h
  | (n, k) :: r, x, h => by
    have ih := @lookup_relabel_free env r x
    show List.lookup x ((if (k == NameKind.free && env.scope.kind == .function && env.kindOf n == some .cell) = true then (n, NameKind.cell) else (n, k)) :: _) = _ ∨ List.lookup x ((if (k == NameKind.free && env.scope.kind == .function && env.kindOf n == some .cell) = true then (n, NameKind.cell) else (n, k)) :: _) = _
    cases hx : x == n with
    | true =>
      simp only [List.lookup_cons, hx] at h
      cases h
      split <;> simp [List.lookup_cons, hx]
    | false =>
      simp only [List.lookup_cons, hx] at h
      by_cases hc : (k == NameKind.free && env.scope.kind == .function && env.kindOf n == some .cell) = true
      · rw [if_pos hc]; simp only [List.lookup_cons, hx]; exact ih h
      · rw [if_neg hc]; simp only [List.lookup_cons, hx]; exact ih h
theorem relabel_cf {env : Env} : ∀ {names : List (Str × NameKind)} {x : Str}, (∀ y ∈ names, y.2 ≠ .cell) →
    ((names.map fun (n, k) => if (k == NameKind.free && env.scope.kind == .function && env.kindOf n == some .cell) then (n, NameKind.cell) else (n, k)).lookup x = some .cell ∨
    (names.map fun (n, k) => if (k == NameKind.free && env.scope.kind == .function && env.kindOf n == some .cell) then (n, NameKind.cell) else (n, k)).lookup x = some .free) → (x, NameKind.free) ∈ names
  | [], _, _, h => by simp at h
  | (n, k) :: r, x, hn, h => by
    have ih := @relabel_cf env r x (fun y hy => hn y (List.mem_cons_of_mem _ hy))
    have h : List.lookup x ((if (k == NameKind.free && env.scope.kind == .function && env.kindOf n == some .cell) = true then (n, NameKind.cell) else (n, k)) :: _) = _ ∨ List.lookup x ((if (k == NameKind.free && env.scope.kind == .function && env.kindOf n == some .cell) = true then (n, NameKind.cell) else (n, k)) :: _) = _ := h
    cases hx : x == n with
    | true =>
      have e := beq_iff_eq.mp hx
      subst e
      have hk : k = .free := by
        by_cases hc : (k == NameKind.free && env.scope.kind == .function && env.kindOf x == some .cell) = true
        · simp only [Bool.and_eq_true, beq_iff_eq] at hc
          exact hc.1.1
        · rw [if_neg hc] at h
          simp only [List.lookup_cons, hx] at h
          rcases h with h | h
          · exact absurd (Option.some.inj h) (hn (x, k) List.mem_cons_self)
          · exact Option.some.inj h
      subst hk
      exact List.mem_cons_self
    | false =>
      refine List.mem_cons_of_mem _ (ih ?_)
      by_cases hc : (k == NameKind.free && env.scope.kind == .function && env.kindOf n == some .cell) = true
      · rw [if_pos hc] at h; simp only [List.lookup_cons, hx] at h; exact h
      · rw [if_neg hc] at h; simp only [List.lookup_cons, hx] at h; exact h

def capN (N : List Str) (js : List Nat) : List Str := js.map fun j => N.getD j Str.empty
def capSt (σ : St) (js : List Nat) : St := js.map fun j => (σ[j]?).getD none
/-- the names that the block takes from around it -/
def capOk (N : List Str) (osc sc : Scope) (js : List Nat) : Bool :=
  js.all fun j => decide (j < N.length) && (osc.names.lookup (N.getD j Str.empty) == some .cell || osc.names.lookup (N.getD j Str.empty) == some .free) && sc.names.lookup (N.getD j Str.empty) == some .free
def scOk (osc sc : Scope) (x : Str) : Bool :=
  sc.kind == .function && sc.names.all (fun y => y.2 != .cell) && sc.names.all (fun y => y.2 != .local || sc.names.lookup y.1 == some .local) && sc.names.lookup x == some .local &&
    sc.names.all (fun y => y.2 != .free || (osc.names.lookup y.1 == some .cell || osc.names.lookup y.1 == some .free))

def LcLoop (J : It) (cap : St) (tt : TT) (te : TE) (H : Hp) (P : List V → Hp → Prop) : Prop :=
  ∃ W : Nat → Nat → List V → Hp → Prop, (∃ m, W 0 m [] H) ∧ ∀ i m ys H, W i m ys H →
    (J.stop i H ∧ ys.length ≤ sizeLine ∧ P ys H) ∨ (J.go i H ∧ ys.length < sizeLine ∧ ∃ Nx : List V → Hp → Prop, (∀ ys' H', Nx ys' H' → ∃ m', m' < m ∧ W (i + 1) m' ys' H') ∧
      ∀ x H', J.yld i H x H' → tt (some x :: cap) H' fun b H3 => if b = true then te (some x :: cap) H3 fun v H4 => Nx (ys ++ [v]) H4 else Nx ys H3)


theorem Un.track {fs ex : List Addr} {H H1 : Hp} {h h1 : Heap} {D : Addr} {o : HO} (u : Un fs ex H H1 h h1) (hp : h.objs.size ≤ D) (hn : H1 D = none) : Un fs ex H (upd H1 D o) h h1 where
  keep := u.keep
  slot := u.slot
  free := fun b ob q n hx => by rw [upd_ne (Nat.ne_of_lt (Nat.lt_of_lt_of_le (Heap.lt_size q) hp))]; exact u.free b ob q n hx
  there := u.there
  tups := fun b xs q => by have z := u.tups b xs q; rw [upd_ne (ne_of_none z hn)]; exact z
  frzs := fun b ob xs q => by have z := u.frzs b ob xs q; rw [upd_ne (ne_of_none z hn)]; exact z
  tbls := fun b ps q => by obtain ⟨more, z⟩ := u.tbls b ps q; exact ⟨more, by rw [upd_ne (ne_of_none z hn)]; exact z⟩
theorem HOk.track {P : Program} {w : World} {H : Hp} {h : Heap} {D : Addr} {o : HO} (x : HOk P w H h) (hn : H D = none) (new : ObjOk P w (upd H D o) h D o) : HOk P w (upd H D o) h := fun b u e => by
  by_cases hb : b = D
  · subst hb; rw [upd_same] at e; cases e; exact new
  · rw [upd_ne hb] at e
    exact (x b u e).stay (fun c v _ q => q) (fun c q => by rw [upd_ne (ne_of_none q hn)]; exact q) fun c xs q => by rw [upd_ne (ne_of_none q hn)]; exact q
section
variable {X : Cx} {x : Str} {px : Pos} {iter elt : Expr} {ifs : List Expr} {scope : Scope} {pos : Pos} {js : List Nat} {N : List Str} {osc : Scope} {tt : TT} {te : TE} {cl : List (Str × Addr)}

theorem comp_core {RR : Value → Addr → Result → Shared → Prop} {E : Value → Shared → Prop} {pins : List (Addr × Obj)} {σ : St} {H2 : Hp} {s2 : Shared} {it : Addr} {fp : List Addr} {tn : Nat → Heap → Prop} {J : It} {P : List V → Hp → Prop}
    (hN : X.N = N) (hsc : X.env.scope = osc) (hcap : capOk N osc scope js = true) (hs1 : scOk osc scope x = true) (hnd : (x :: capN N js).Nodup) (hc : X.calm = true)
    (hin : ∀ C s H fp E, PIf (cxC X scope cl C (x :: capN N js) s H fp E) ifs tt ∧ PE (cxC X scope cl C (x :: capN N js) s H fp E) elt te)
    (I2 : Inv X pins σ H2 s2) (T : Turn X.prog X.w X.K (.Name x px) J fp it tn) (st : tn 0 s2.heap) (f2 : ∀ b ∈ fp, FpOk X pins H2 b)
    (cl1 : ∀ n c, cl.lookup n = some c → X.env.cells.lookup n = some c) (cl2 : ∀ n, (n, NameKind.free) ∈ scope.names → ∃ c, cl.lookup n = some c)
    (h : LcLoop J (capSt σ js) tt te H2 P)
    (hRR : ∀ D C ys H' s', P ys H' → H' D = none → Inv X pins σ (upd H' D (.lst ys)) s' → (∃ m, s'.heap.Ns C m) → C ≠ X.env.locals → X.s₀.heap.objs.size ≤ C → (∀ y c, X.env.cells.lookup y = some c → c ≠ C) → (∀ p ∈ X.pn ++ pins, p.1 ≠ C) →
      (upd H' D (.lst ys)) C = none → RR (.ref D) C (.ok .next) s') :
    wpAny (model X.prog X.w) X.A (newList []) (fun acc s₃ => wpAny (model X.prog X.w) X.A (newFunctionEnv scope X.env.globals cl [] X.env.qual none .none (some X.env)) (fun cenv s₄ =>
      codeAny (model X.prog X.w) X.A (.compStart (.ListComp elt [⟨.Name x px, iter, ifs, 0⟩] scope pos) 0 (.ref it) acc { cenv with scope := relabel scope X.env }) (RR acc cenv.locals) s₄) E s₃) E s2 := by
  unfold scOk at hs1
  simp only [Bool.and_eq_true, beq_iff_eq, List.all_eq_true] at hs1
  obtain ⟨⟨⟨⟨hkind, hcell0⟩, hnames0⟩, hxl⟩, hfr0⟩ := hs1
  have hcell : ∀ y ∈ scope.names, y.2 ≠ .cell := fun y hy e => by
    have := hcell0 y hy
    rw [e] at this
    simp at this
  refine wpAny_newObj_type (wpAny_newFunctionEnv hcell (by intro y hy; simp at hy) (fun h₁ hns₁ hsb₁ => ?_) hkind)
  dsimp only at hns₁ hsb₁ ⊢
  generalize hHp : s2.heap.push { cls := .type "list", dict := none, data := .seq ([] : List Value).toArray } = Hh at hns₁ hsb₁ ⊢
  have hC : Hh.objs.size = s2.heap.objs.size + 1 := by rw [← hHp, Heap.size_push]
  generalize hD : s2.heap.objs.size = D at hC ⊢
  generalize hCC : Hh.objs.size = C at hC hns₁ hsb₁ ⊢
  have hDC : D ≠ C := by omega
  have below : ∀ b o, s2.heap.get? b = some o → b < D := fun b o e => by rw [← hD]; exact Heap.lt_size e
  have old : ∀ b o, s2.heap.get? b = some o → h₁.get? b = some o := fun b o e =>
    hsb₁.extBut b o (Nat.ne_of_lt (by rw [hC]; exact Nat.lt_succ_of_lt (below b o e))) (Heap.get?_push_of_some _ (by rw [← hHp]; exact Heap.get?_push_of_some _ e))
  have hacc : h₁.get? D = some { cls := .type "list", data := .seq ([] : List Value).toArray } :=
    hsb₁.extBut D _ hDC (Heap.get?_push_of_some _ (by rw [← hHp, ← hD]; exact Heap.get?_push_size _ rfl))
  have fpD : ∀ b ∈ fp, b < D := fun b hb => by
    obtain ⟨o, e, _⟩ := T.obj _ _ st b hb
    exact below b o e
  have ltC : ∀ b : Addr, b < D → b ≠ C := fun b hb => Nat.ne_of_lt (by rw [hC]; exact Nat.lt_succ_of_lt hb)
  have hLt : X.env.locals < D := by rw [← hD]; exact I2.lt
  have cellLt : ∀ y c, X.env.cells.lookup y = some c → c < D := fun y c e => by
    obtain ⟨v, q⟩ := I2.cell y c e
    rw [← hD]; exact q.lt
  have frLt : ∀ b, b ∈ frs X.stack → b < D := fun b hb => by
    obtain ⟨_, o, ho, _⟩ := I2.stack.mem hb
    exact below b o ho
  let E' : Value → Shared → Prop := notedBy (model X.prog X.w) X.A (compEnvC scope cl C X.env) (fun e s' => RR (.ref D) C (.error e) s')
  let X' : Cx := cxC X scope cl C (x :: capN N js) s2 H2 fp E'
  have hok : X'.Ok := {
      mod := I2.ok.mod
      kind := hkind
      glob := I2.ok.glob
      blt := I2.ok.blt
      above := by show s2.heap.objs.size ≤ C; omega
      inj := fun a b c e1 e2 => I2.ok.inj a b c (cl1 _ _ e1) (cl1 _ _ e2)
      has := fun y hy => cl2 y (relabel_cf hcell hy)
      cab := fun _ _ e => nomatch e
      hd := I2.ok.hd
      frames := I2.ok.frames
      stk := .inl rfl
      exf := fun b hb => ⟨ltC b (fpD b hb), fun y c e => (f2 b hb).2.2.2.2.1 y c (cl1 _ _ e)⟩
      bs := I2.bs
      bsz := Nat.le_trans I2.ok.bsz I2.sz
      noex := fun b o e hb => by
        rcases (f2 b hb).2.2.2.1 with z | z
        · exact I2.ok.noex b o e z
        · have := Nat.lt_of_lt_of_le (Heap.lt_size e) I2.ok.bsz
          omega
      exfs := fun b hb z => by
        rcases List.mem_cons.mp (I2.stkSub b z) with e | e
        · exact (f2 b hb).2.1 e
        · exact (f2 b hb).2.2.1 e
      funs := I2.stack
      frf := I2.stkFree }
  have hl0 : (none :: capSt σ js : St).length = X'.N.length := by
    show _ = (x :: capN N js).length
    simp [capSt, capN]
  have nC2 : H2 C = none := I2.hok.fresh (by omega)
  have nD2 : H2 D = none := I2.hok.fresh (by omega)
  have I0 : Inv X' [] (none :: capSt σ js) H2 { s2 with heap := h₁, toks := s2.toks + ([] : List (Str × Value)).length } := by
    refine ⟨hok, rfl, I2.bare, Un.kept old, ⟨_, hns₁, fun i y v h1 h2 h3 => ?_⟩, fun y c e => ?_, nC2, fun y c e => I2.freeC y c (cl1 y c e), fun p hp => absurd (show p ∈ ([] : List (Addr × Obj)) from hp) (by simp), I2.hok.kept old, hl0⟩
    · cases i with
      | zero => simp at h2
      | succ i =>
        have h1' : (capN N js)[i]? = some y := by
          have z : (x :: capN N js)[i + 1]? = some y := h1
          simpa using z
        have h2' : (capSt σ js)[i]? = some (some v) := by simpa using h2
        unfold capN at h1'
        unfold capSt at h2'
        rw [List.getElem?_map] at h1' h2'
        cases ej : js[i]? with
        | none => rw [ej] at h1'; cases h1'
        | some j =>
          rw [ej] at h1' h2'
          have e1 : N.getD j Str.empty = y := Option.some.inj h1'
          have e2 : (σ[j]?).getD none = some v := Option.some.inj h2'
          have hσ : σ[j]? = some (some v) := by
            cases q : σ[j]? with
            | none => rw [q] at e2; cases e2
            | some o => rw [q] at e2; rw [show o = some v from e2]
          have hcj := (List.all_eq_true.mp hcap) j (List.mem_of_getElem? ej)
          simp only [Bool.and_eq_true, Bool.or_eq_true, beq_iff_eq, decide_eq_true_eq] at hcj
          obtain ⟨⟨hjl, hok1⟩, hok2⟩ := hcj
          rw [e1] at hok1 hok2
          have hNj : X.N[j]? = some y := by
            rw [hN, ← e1, List.getD_eq_getElem?_getD]
            simp [hjl]
          obtain ⟨m, hm, hl⟩ := I2.loc
          have hvis : Vis X.env.scope y := by
            rw [hsc]
            rcases hok1 with z | z
            · exact .inr (.inl z)
            · exact .inr (.inr z)
          obtain ⟨u, ru, look⟩ := hl j y v hNj hσ hvis
          refine ⟨u, ru, .inr ⟨lookup_relabel_free hok2, ?_⟩⟩
          rcases look with ⟨lk, _⟩ | ⟨_, c, ec, hcl⟩
          · have lk' : X.env.scope.names.lookup y = some .local := lk
            rw [hsc] at lk'
            rcases hok1 with z | z <;> (rw [z] at lk'; cases lk')
          · obtain ⟨c', ec'⟩ := cl2 y (PySem.mem_of_lookup hok2)
            have := cl1 y c' ec'
            rw [ec] at this
            cases this
            exact ⟨c, ec', let ⟨o, ho, hd⟩ := hcl; ⟨o, old c o ho, hd⟩⟩
    · obtain ⟨v, o, ho, hd⟩ := I2.cell y c (cl1 y c e)
      exact ⟨v, o, old c o ho, hd⟩
  have DfsX : D ∉ X'.fs := fun z => absurd (frLt D z) (Nat.lt_irrefl _)
  have Dfp : D ∉ fp := fun z => absurd (fpD D z) (Nat.lt_irrefl _)
  have Dcell : ∀ y c, X'.env.cells.lookup y = some c → c ≠ D := fun y c e => Nat.ne_of_lt (cellLt y c (cl1 y c e))
  have D0 : X'.s₀.heap.objs.size ≤ D := by show s2.heap.objs.size ≤ D; omega
  have fpOk : ∀ {H : Hp} {pl : List (Addr × Obj)}, (∀ b ∈ fp, H b = none) → (∀ p ∈ pl, p.1 ∉ fp) → ∀ b ∈ fp, FpOk X' pl H b := fun {H pl} hn hp b hb => by
    refine ⟨hn b hb, ltC b (fpD b hb), fun z => ?_, .inl hb, fun y c e => (f2 b hb).2.2.2.2.1 y c (cl1 y c e), fun p q => ?_⟩
    · rcases List.mem_cons.mp (I2.stkSub b z) with e | e
      · exact (f2 b hb).2.1 e
      · exact (f2 b hb).2.2.1 e
    · intro e
      rcases List.mem_append.mp q with q | q
      · exact absurd (show p ∈ ([] : List (Addr × Obj)) from q) (by simp)
      · exact hp p q (by rw [e]; exact hb)
  have hif : PIf X' ifs tt := (hin C s2 H2 fp E').1
  have helt : PE X' elt te := (hin C s2 H2 fp E').2
  obtain ⟨W, ⟨m0, w0⟩, turn⟩ := h
  have loop : ∀ s₃ : Shared, s₃ = { s2 with heap := h₁, toks := s2.toks + ([] : List (Str × Value)).length } →
      codeAny (model X.prog X.w) X.A (.compLoop (.ListComp elt [⟨.Name x px, iter, ifs, 0⟩] scope pos) 0 (.ref it) (.ref D) (compEnvC scope cl C X.env)) (RR (.ref D) C) s₃ := by
    rintro s₃ rfl
    refine compLoop_any (fun n s' => ∃ i ys its nn H', Inv X' [] (none :: capSt σ js) H' s' ∧ tn i s'.heap ∧ (∀ b ∈ fp, H' b = none) ∧ s'.heap.get? D = some { cls := .type "list", data := .seq (its : List Value).toArray nn } ∧ H' D = none ∧ Vals ys its ∧ W i n ys H') ?_ m0
      ⟨0, [], [], 0, H2, I0, T.keep _ _ _ st fun b _ o e => old b o e, fun b hb => (f2 b hb).1, hacc, nD2, .nil, w0⟩
    rintro n s3 ⟨i, ys, its, nn, H3, I3, st3, fr3, hD3, nD3, rv, w3⟩
    have hlen : ys.length = its.length := rv.length
    let ob : Obj := { cls := .type "list", data := .seq its.toArray nn }
    have nocell : ∀ v, ob.data ≠ .cell v := fun v z => nomatch z
    have I3p : Inv X' [(D, ob)] (none :: capSt σ js) H3 s3 := I3.pins_of fun p hp => by
      have e : p = (D, ob) := by simpa using hp
      subst e
      exact ⟨hD3, nD3, hDC, DfsX, nocell⟩
    have pfp : ∀ p ∈ [(D, ob)], p.1 ∉ fp := fun p hp => by
      have e : p = (D, ob) := by simpa using hp
      subst e
      exact Dfp
    rcases turn i n ys H3 w3 with ⟨stop, hz, q⟩ | ⟨go, hz, Nx, hNx, step⟩
    · refine wpAny_mono (T.done X' rfl rfl rfl hc i [(D, ob)] s3 _ H3 E' I3p (fpOk fr3 pfp) st3 stop) (fun r s4 ⟨hr, I4⟩ => ?_) fun _ _ e => e
      subst hr
      have hD4 : s4.heap.get? D = some ob := (I4.pin (D, ob) (by simp)).1
      have un : Un (frs X.stack) fp H2 H3 s2.heap s4.heap := I4.base
      obtain ⟨m, hm, _⟩ := I4.loc
      have nC3 : H3 C = none := I4.free
      refine hRR D C ys H3 s4 q nD3 ?_ ⟨m, hm⟩ (Ne.symm (ltC _ hLt)) (by have := I2.sz; omega) (fun y c e => ltC c (cellLt y c e)) (fun p hp => ?_) (by rw [upd_ne hDC.symm]; exact nC3)
      · refine I2.call' I4.os (un.track (by omega) nD3) (I4.hok.track nD3 ⟨hz, its, nn, rv, hD4⟩) I4.bare fun b hb => ?_
        obtain ⟨_, a2, _, a4, a5, a6⟩ := f2 b hb
        exact ⟨a4, a2, a5, a6⟩
      · exact ltC _ (below _ _ (I2.pin p hp).1)
    · refine wpAny_mono (T.item X' rfl rfl rfl hc i [(D, ob)] s3 _ H3 E' I3p (fpOk fr3 pfp) st3 go) (fun r s4 ⟨u, hr, h4⟩ => ?_) fun _ _ e => e
      subst hr
      refine wpAny_mono h4 (fun _ s5 ⟨xv, H5, I5, r5, y5, st5, fr5⟩ => ?_) fun _ _ e => e
      have I5' := I5.pinned (fpOk fr5 pfp) (T.obj _ _ st5)
      refine wpAny_assign_Name (store_ok (X := X') (i := 0) (x := x) I5' hnd rfl (.inl (lookup_relabel_local hxl)) r5 (fun s6 I6 => ?_) (.inr (lookup_relabel_local hxl)))
      -- behind the element or the test: the next turn
      have next : ∀ {s7 : Shared} {H7 : Hp}, Inv X' ([(D, ob)] ++ pinsAt fp s5.heap) (some xv :: capSt σ js) H7 s7 →
          Inv X' [] (none :: capSt σ js) H7 s7 ∧ tn (i + 1) s7.heap ∧ (∀ b ∈ fp, H7 b = none) ∧ s7.heap.get? D = some ob ∧ H7 D = none := fun {s7 H7} I7 => by
        have pD := I7.pin (D, ob) (List.mem_append_right _ (List.mem_append_left _ (by simp)))
        refine ⟨(I7.weak (σ' := none :: capSt σ js) (by simp) fun j v e => ?_).pins_of (fun p hp => nomatch hp), T.keep _ _ _ st5 fun b hb o e => (I7.pin (b, o) (List.mem_append_right _ (List.mem_append_right _ (mem_pinsAt hb e)))).1, fun b hb => ?_, pD.1, pD.2.1⟩
        · cases j with
          | zero => simp at e
          | succ j => simpa using e
        · obtain ⟨o, e, d⟩ := T.obj _ _ st5 b hb
          exact (I7.pin (b, o) (List.mem_append_right _ (List.mem_append_right _ (mem_pinsAt hb e)))).2.1
      refine wpAny_mono (hif _ s6 _ H5 _ I6 (step xv H5 y5)) (fun b s7 ⟨H7, I7, q7⟩ => ?_) fun _ _ e => e
      cases b with
      | false =>
        rw [if_neg Bool.false_ne_true] at q7 ⊢
        obtain ⟨m', hm, w7⟩ := hNx ys H7 q7
        obtain ⟨a1, a2, a3, a4, a5⟩ := next I7
        exact ⟨m', hm, i + 1, ys, its, nn, H7, a1, a2, a3, a4, a5, rv, w7⟩
      | true =>
        rw [if_pos rfl] at q7 ⊢
        refine wpAny_mono (helt _ s7 _ H7 _ I7 q7) (fun uv s8 ⟨v, H8, I8, r8, q8⟩ => ?_) fun _ _ e => e
        obtain ⟨m', hm, w8⟩ := hNx _ H8 q8
        obtain ⟨a1, a2, a3, a4, a5⟩ := next I8
        refine call_meets F.slot_list_append ⟨_, a4, rfl⟩ F.entry_list_append (F.args_list_append_2 _ _) (PySem.list_append D its.toArray nn uv (by rw [List.size_toArray]; omega)) ⟨a4, ?_⟩
        have q := PySem.IsL.update a4 (·.push uv)
        have e2 : its.toArray.push uv = (its ++ [uv]).toArray := by simp
        rw [e2] at q
        have kk : ∀ b o, b ≠ D → s8.heap.get? b = some o → (s8.heap.update D (Obj.mapSeq (·.push uv))).get? b = some o := fun b o hb e => (Heap.get?_update_other s8.heap _ (Ne.symm hb)).trans e
        refine ⟨m', hm, i + 1, ys ++ [v], its ++ [uv], _, H8, a1.turned (t' := s8.toks) kk a5 hDC (.inr D0) Dcell (fun p hp => ?_), T.keep _ _ _ a2 fun b hb o e => kk b o (fun z => Dfp (z ▸ hb)) e, a3, q, a5, rv.append (.cons r8 .nil), w8⟩
        · exact absurd (show p ∈ ([] : List (Addr × Obj)) from hp) (by simp)
  exact codeAny_compStart_list (loop _ rfl) (T.self X.A 0 _ _ _ (T.keep _ _ _ st fun b _ o e => old b o e) (loop _ rfl))

/-- [elt for x in iter if ..]: js, the slots of the names that the block takes from around it -/
def tLC (wi : TI) (js : List Nat) (tt : TT) (te : TE) : TE := fun σ H Q => wi σ H fun J H1 => LcLoop J (capSt σ js) tt te H1 fun ys H2 => ∀ D, H2 D = none → Q (.ref D) (upd H2 D (.lst ys))
theorem frees_of (hs1 : scOk osc scope x = true) (hsc : X.env.scope = osc) {pins : List (Addr × Obj)} {σ : St} {H : Hp} {s : Shared} (I : Inv X pins σ H s) : ∀ n, (n, NameKind.free) ∈ scope.names → ∃ c, X.env.cells.lookup n = some c := fun n hn => by
  unfold scOk at hs1
  simp only [Bool.and_eq_true, beq_iff_eq, List.all_eq_true] at hs1
  have h := hs1.2 _ hn
  simp only [bne_self_eq_false, Bool.false_or, Bool.or_eq_true, beq_iff_eq] at h
  refine I.ok.has n ?_
  show X.env.scope.names.lookup n = _ ∨ X.env.scope.names.lookup n = _
  rw [hsc]; exact h
theorem scOk.kind (hs1 : scOk osc scope x = true) : scope.kind = .function := by
  unfold scOk at hs1
  simp only [Bool.and_eq_true, beq_iff_eq, List.all_eq_true] at hs1
  exact hs1.1.1.1.1
theorem scOk.names (hs1 : scOk osc scope x = true) : ∀ y ∈ scope.names, y.2 = .local → scope.names.lookup y.1 = some .local := fun y hy e => by
  unfold scOk at hs1
  simp only [Bool.and_eq_true, beq_iff_eq, List.all_eq_true] at hs1
  have := hs1.1.1.2 y hy
  rw [e] at this
  simpa using this
theorem pe_lc {wi : TI} {ps : List Str} (_S : FnScope N ps osc) (js : List Nat) (hi : PI X (.Name x px) iter wi)
    (hin : ∀ cl C s H fp E, PIf (cxC X scope cl C (x :: capN N js) s H fp E) ifs tt ∧ PE (cxC X scope cl C (x :: capN N js) s H fp E) elt te)
    (hN : X.N = N := by rfl) (hsc : X.env.scope = osc := by rfl) (hcap : capOk N osc scope js = true := by decide +kernel) (hs1 : scOk osc scope x = true := by decide +kernel) (hnd : (x :: capN N js).Nodup := by decide +kernel) (hc : X.calm = true := by rfl)
    (hs : ∀ v, foldedSetIterable iter X.env v = pure v := by intro _; rfl) :
    PE X (.ListComp elt [⟨.Name x px, iter, ifs, 0⟩] scope pos) (tLC wi js tt te) := by
  intro pins s σ H Q I h
  obtain ⟨cl, hcl, cl1, cl2⟩ := closure_of (frees_of hs1 hsc I)
  rw [eval_ListComp]
  refine wpAny_comprehension_free (use := none) rfl hs hcl (scOk.kind hs1) (scOk.names hs1) (thn (hi pins s σ H _ I h) fun v s1 h1 => thn h1 fun itv s2 h2 => ?_)
  obtain ⟨it, fp, tn, J, H2, e, I2, T, st2, f2, lp⟩ := h2
  subst e
  refine comp_core (RR := fun acc C => compPost (model X.prog X.w) X.A X.xe none (EP X pins σ Q) acc C) hN hsc hcap hs1 hnd hc (hin cl) I2 T st2 f2 cl1 cl2 lp ?_
  intro D C ys H' s' q nD I' hm hL h0 hce hpi hfree
  refine ⟨hm.choose, hm.choose_spec, fun h' hs' => ⟨.ref D, _, I'.turned (t' := s'.toks) (fun b o hb e => hs'.extBut b o hb e) hfree hL (.inr h0) hce hpi, rfl, q D nD⟩⟩
end
end L2

namespace L2
open PySem PySem.Spec PyProof.Rows

/-! ### isinstance -/
section
variable {X : Cx}
/-- a class as a value -/
inductive ClV : V → Value → Prop where
  | ty (n : String) : ClV (.ty n) (.type n)
  | ref (a : Addr) : ClV (.ref a) (.ref a)
theorem ClV.rel {c : V} {cv u : Value} (h : ClV c cv) (r : RelV c u) : u = cv := by
  cases h with
  | ty n => exact r
  | ref a => exact r
theorem call_isinst : CallR X (.builtin "isinstance") (fun xs H Q => ∃ x c t cv b, xs = [x, c] ∧ ClV c cv ∧ TyOf X.K H x t ∧ PySem.W.kitOne X.K t cv = some b ∧ Q (.bl b) H) := by
  intro pins s σ H xs us Q I r h
  obtain ⟨x, c, t, cv, b, rfl, hc, ht, he, q⟩ := h
  cases r with
  | cons r1 r' =>
    cases r' with
    | cons r2 r'' =>
      cases r''
      obtain rfl := hc.rel r2
      exact isinst_ok I r1 ht he fun tk => ⟨.bl b, H, I.tok tk, rfl, q⟩
/-- a tuple of classes: kitAny's answer, for what the text's own objects are -/
theorem isinst_tup {pins : List (Addr × Obj)} {σ : St} {H : Hp} {s : Shared} {A : Around} {E : Value → Shared → Prop} {Q : Value → Shared → Prop} {x : V} {u t : Value} {tp : Addr} {cs : List V} {cvs : List Value} {b : Bool}
    (I : Inv X pins σ H s) (rx : RelV x u) (ty : TyOf X.K H x t) (ht : H tp = some (.tup cs)) (hcs : Paired ClV cs cvs) (e : PySem.W.kitAny X.K t cvs = some b) (h : ∀ tk, Q (.bool b) { s with toks := tk }) :
    wpAny (model X.prog X.w) A (call (.builtin "isinstance") [u, .ref tp]) Q E s := by
  obtain ⟨_, its, rv, p⟩ := (show ObjOk X.prog X.w H s.heap tp (.tup cs) from I.hok tp _ ht)
  have eits : its = cvs := by
    have : ∀ {cs : List V} {its cvs : List Value}, Vals cs its → Paired ClV cs cvs → its = cvs := by
      intro cs
      induction cs with
      | nil => intro its cvs a b; cases a; cases b; rfl
      | cons c cs ih =>
        intro its cvs a b
        cases a with
        | cons a1 a2 =>
          cases b with
          | cons b1 b2 => rw [b1.rel a1, ih a2 b2]
    exact this rv hcs
  subst eits
  obtain ⟨⟨oc, od, odt, osl⟩, h1, h2, n, h3⟩ := p
  cases h2
  cases h3
  cases ty with
  | non => cases (show u = Value.none from rx); exact PySem.W.kia_tup PySem.W.kitx_none I.kIn True.intro h1 e (fun z => nomatch z) h
  | bl y => cases (show u = Value.bool y from rx); exact PySem.W.kia_tup PySem.W.kitx_bool I.kIn True.intro h1 e (fun z => nomatch z) h
  | int i => obtain ⟨t, q⟩ := (show ∃ t, u = Value.int i t from rx); cases q; exact PySem.W.kia_tup PySem.W.kitx_int I.kIn True.intro h1 e (fun z => nomatch z) h
  | str y => obtain ⟨t, q⟩ := (show ∃ t, u = Value.str y t from rx); cases q; exact PySem.W.kia_tup PySem.W.kitx_str I.kIn True.intro h1 e (fun z => nomatch z) h
  | flt y => obtain ⟨t, q⟩ := (show ∃ t, u = Value.float y t from rx); cases q; exact PySem.W.kia_tup PySem.W.kitx_float I.kIn True.intro h1 e (fun z => nomatch z) h
  | @lst a xs ea =>
    cases (show u = Value.ref a from rx)
    obtain ⟨_, _, n, _, h1'⟩ := (show ObjOk X.prog X.w H s.heap a (.lst xs) from I.hok a _ ea)
    exact PySem.W.kia_tup PySem.W.kitx_list I.kIn ⟨_, h1', rfl⟩ h1 e (fun z => nomatch z) h
  | @frz a ob xs ea =>
    cases (show u = Value.ref a from rx)
    obtain ⟨_, _, _, n, _, h1'⟩ := (show ObjOk X.prog X.w H s.heap a (.frz ob (.lst xs)) from I.hok a _ ea)
    exact PySem.W.kia_tup PySem.W.kitx_list I.kIn ⟨_, h1', rfl⟩ h1 e (fun z => nomatch z) h
  | @tup a xs ea =>
    cases (show u = Value.ref a from rx)
    obtain ⟨_, _, _, p⟩ := (show ObjOk X.prog X.w H s.heap a (.tup xs) from I.hok a _ ea)
    obtain ⟨o, h1', h2, _⟩ := p
    exact PySem.W.kia_tup PySem.W.kitx_tuple I.kIn ⟨o, h1', h2⟩ h1 e (fun z => nomatch z) h
  | @dK a kvs ea =>
    cases (show u = Value.ref a from rx)
    obtain ⟨_, _, vs, _, p⟩ := (show ObjOk X.prog X.w H s.heap a (.dK kvs) from I.hok a _ ea)
    obtain ⟨o, es, ep, h1', h2, _⟩ := p
    exact PySem.W.kia_tup PySem.W.kitx_dict I.kIn ⟨o, h1', h2.1⟩ h1 e (fun z => nomatch z) h
  | @dT a kvs ea =>
    cases (show u = Value.ref a from rx)
    obtain ⟨_, _, xs, _, o, es, ep, h1', h2, _⟩ := (show ObjOk X.prog X.w H s.heap a (.dT kvs) from I.hok a _ ea)
    exact PySem.W.kia_tup PySem.W.kitx_dict I.kIn ⟨o, h1', h2.1⟩ h1 e (fun z => nomatch z) h
  | @ins a C dx fs ea cl ha hn htk hm =>
    cases (show u = Value.ref a from rx)
    obtain ⟨mA, O, _⟩ := ins_get I.hok ea
    obtain ⟨od, J, _⟩ := O.look
    exact PySem.W.kia_tup (PySem.W.kitx_own (cl.get _) cl.hd ha hn htk hm) I.kIn J h1 e (fun z => nomatch z) h
theorem call_isinstT : CallR X (.builtin "isinstance") (fun xs H Q => ∃ x tp cs t cvs b, xs = [x, .ref tp] ∧ H tp = some (.tup cs) ∧ Paired ClV cs cvs ∧ TyOf X.K H x t ∧ PySem.W.kitAny X.K t cvs = some b ∧ Q (.bl b) H) := by
  intro pins s σ H xs us Q I r h
  obtain ⟨x, tp, cs, t, cvs, b, rfl, htp, hcs, ht, he, q⟩ := h
  cases r with
  | cons r1 r' =>
    cases r' with
    | cons r2 r'' =>
      cases r''
      cases r2
      exact isinst_tup I r1 ht htp hcs he fun tk => ⟨.bl b, H, I.tok tk, rfl, q⟩
end

/-! ### == and != of lists and tuples, by what they stand for -/
/-- what == of two values says, at every heap that H describes -/
def EqD (X : Cx) (H : Hp) (d : Nat) (x y : V) (b : Bool) : Prop :=
  ∀ (A : Around) (s : Shared) (pins : List (Addr × Obj)) (σ : St) (u v : Value), Inv X pins σ H s → A.units + d < cLine → RelV x u → RelV y v → SeqAt.EqAt A s u v b
def RcD (X : Cx) (H : Hp) (d : Nat) (x y : V) (b : Bool) : Prop :=
  ∀ (A : Around) (s : Shared) (pins : List (Addr × Obj)) (σ : St) (u v : Value), Inv X pins σ H s → A.units + d < cLine → RelV x u → RelV y v → SeqAt.RcAt A s u v b ∧ SeqAt.RcNeAt A s u v (!b)
/-- R reads data off a value; two values are equal just if their data are -/
structure EqR (X : Cx) (H : Hp) (d : Nat) {α : Type} [DecidableEq α] (R : V → α → Prop) : Prop where
  eq : ∀ x y a b, R x a → R y b → EqD X H d x y (decide (a = b))
  rc : ∀ x y a b, R x a → R y b → RcD X H d x y (decide (a = b))
  one : ∀ x a b, R x a → R x b → (∃ pins σ s, Inv X pins σ H s) → a = b
section
variable {X : Cx} {H : Hp} {d : Nat}
def isI : V → Int → Prop := fun v i => v = .int i
theorem EqR.int : EqR X H d isI := ⟨fun x y a b ha hb A s pins σ u v I hu ru rv => by
    cases ha; cases hb
    obtain ⟨t, rfl⟩ := ru
    obtain ⟨t', rfl⟩ := rv
    rw [show decide (a = b) = (a == b) from rfl]
    exact SeqAt.EqAt.int_int a t b t', fun x y a b ha hb A s pins σ u v I hu ru rv => by
    cases ha; cases hb
    obtain ⟨t, rfl⟩ := ru
    obtain ⟨t', rfl⟩ := rv
    rw [show decide (a = b) = (a == b) from rfl]
    exact ⟨SeqAt.RcAt.int_int a t b t', SeqAt.RcNeAt.int_int a t b t'⟩, fun x a b ha hb _ => by cases ha; cases hb; rfl⟩
variable {α : Type} [DecidableEq α] {R : V → α → Prop}
/-- a tuple, a list of what R reads -/
def isT (K : PySem.W.Frag) (H : Hp) (R : V → α → Prop) : V → List α → Prop := fun v as => ∃ a xs, v = .ref a ∧ SqT K H a xs ∧ Paired R xs as
def isL (K : PySem.W.Frag) (H : Hp) (R : V → α → Prop) : V → List α → Prop := fun v as => ∃ a xs, v = .ref a ∧ SqL K H a xs ∧ Paired R xs as
theorem Paired.get {β γ : Type} {F : β → γ → Prop} : ∀ {xs : List β} {ys : List γ} {i : Nat} {x : β}, Paired F xs ys → xs[i]? = some x → ∃ y, ys[i]? = some y ∧ F x y
  | _, _, _, _, .nil, e => by simp at e
  | _, _, 0, _, .cons r _, e => by simp at e; subst e; exact ⟨_, rfl, r⟩
  | _, _, i + 1, x, .cons _ t, e => by
    obtain ⟨u, h1, h2⟩ := Paired.get (i := i) (x := x) t (by simpa using e)
    exact ⟨u, by simpa using h1, h2⟩
theorem paired_one {X : Cx} {H : Hp} {d : Nat} (h : EqR X H d R) (I : ∃ pins σ s, Inv X pins σ H s) : ∀ {xs : List V} {as bs : List α}, Paired R xs as → Paired R xs bs → as = bs
  | _, _, _, .nil, .nil => rfl
  | _, _, _, .cons r t, .cons r' t' => by rw [h.one _ _ _ r r' I, paired_one h I t t']
theorem all_range_eq {as bs : List α} (hl : as.length = bs.length) : (List.range as.length).all (fun j => decide (as[j]? = bs[j]?)) = decide (as = bs) := by
  rw [Bool.eq_iff_iff, List.all_eq_true, decide_eq_true_iff]
  constructor
  · intro h
    apply List.ext_getElem? 
    intro j
    by_cases hj : j < as.length
    · exact of_decide_eq_true (h j (List.mem_range.mpr hj))
    · rw [List.getElem?_eq_none_iff.mpr (by omega), List.getElem?_eq_none_iff.mpr (by omega)]
  · intro h j _
    rw [h]; simp
theorem EqR.tup (h : EqR X H d R) : EqR X H (d + 1) (isT X.K H R) := by
  have rc : ∀ x y a b, isT X.K H R x a → isT X.K H R y b → RcD X H (d + 1) x y (decide (a = b)) := by
    rintro x y as bs ⟨a, xs, rfl, hx, pa⟩ ⟨b, ys, rfl, hy, pb⟩ A s pins σ u v I hu ru rv
    cases ru; cases rv
    obtain ⟨its, r1, t1, _⟩ := I.tuple hx
    obtain ⟨jts, r2, t2, _⟩ := I.tuple hy
    have l1 := r1.length
    have l2 := r2.length
    have l3 := pa.length
    have l4 := pb.length
    have hu1 : A.units < cLine := by omega
    have he : ∀ j (h1 : j < its.toArray.size) (h2 : j < jts.toArray.size), SeqAt.EqAt A.in1 s its.toArray[j] jts.toArray[j] (decide (as[j]? = bs[j]?)) := fun j h1 h2 => by
      simp only [List.size_toArray] at h1 h2
      obtain ⟨xv, ex⟩ : ∃ xv, xs[j]? = some xv := ⟨xs[j]'(by omega), List.getElem?_eq_getElem (by omega)⟩
      obtain ⟨yv, ey⟩ : ∃ yv, ys[j]? = some yv := ⟨ys[j]'(by omega), List.getElem?_eq_getElem (by omega)⟩
      obtain ⟨u1, q1, w1⟩ := r1.get ex
      obtain ⟨u2, q2, w2⟩ := r2.get ey
      obtain ⟨a1, p1, z1⟩ := Paired.get pa ex
      obtain ⟨a2, p2, z2⟩ := Paired.get pb ey
      have g1 : its.toArray[j]'(by simpa using h1) = u1 := by
        have := List.getElem?_eq_some_iff.mp q1
        simpa using this.2
      have g2 : jts.toArray[j]'(by simpa using h2) = u2 := by
        have := List.getElem?_eq_some_iff.mp q2
        simpa using this.2
      rw [g1, g2, p1, p2]
      have := h.eq xv yv a1 a2 z1 z2 A.in1 s pins σ u1 u2 I (by show A.units + 1 + d < cLine; omega) w1 w2
      rw [show decide (some a1 = some a2) = decide (a1 = a2) by simp]
      exact this
    have hb : ((List.range (min its.toArray.size jts.toArray.size)).all (fun j => decide (as[j]? = bs[j]?)) && its.toArray.size == jts.toArray.size) = decide (as = bs) := by
      simp only [List.size_toArray]
      by_cases hl : as.length = bs.length
      · have e1 : its.length = jts.length := by omega
        have e2 : min its.length jts.length = as.length := by omega
        rw [e2, all_range_eq hl, e1]; simp
      · have : (its.length == jts.length) = false := by simp; omega
        rw [this, Bool.and_false]
        exact (decide_eq_false fun e => hl (by rw [e])).symm
    have z1 := SeqAt.RcAt.tuples (A := A) (s := s) t1 t2 hu1 he
    have z2 := SeqAt.RcNeAt.tuples (A := A) (s := s) t1 t2 hu1 he
    rw [hb] at z1 z2
    exact ⟨z1, z2⟩
  refine ⟨?_, rc, ?_⟩
  · rintro x y as bs hx hy A s pins σ u v I hu ru rv
    obtain ⟨a, xs, rfl, hx', pa⟩ := id hx
    obtain ⟨b, ys, rfl, hy', pb⟩ := id hy
    cases ru; cases rv
    by_cases e : a = b
    · subst e
      have : xs = ys := I.tuple_inj hx' hy'
      subst this
      rw [paired_one h ⟨pins, σ, s, I⟩ pa pb, decide_eq_true rfl]
      exact SeqAt.EqAt.same _
    · exact SeqAt.EqAt.of_refs e (rc _ _ as bs hx hy A s pins σ _ _ I hu rfl rfl).1
  · rintro x as bs ⟨a, xs, rfl, hx, pa⟩ ⟨b, ys, e, hy, pb⟩ ⟨pins, σ, s, I⟩
    cases e
    have : xs = ys := I.tuple_inj hx hy
    subst this
    exact paired_one h ⟨pins, σ, s, I⟩ pa pb
theorem EqR.lst (h : EqR X H d R) : EqR X H (d + 1) (isL X.K H R) := by
  have rc : ∀ x y a b, isL X.K H R x a → isL X.K H R y b → RcD X H (d + 1) x y (decide (a = b)) := by
    rintro x y as bs ⟨a, xs, rfl, hx, pa⟩ ⟨b, ys, rfl, hy, pb⟩ A s pins σ u v I hu ru rv
    cases ru; cases rv
    obtain ⟨its, r1, t1, _⟩ := I.list hx
    obtain ⟨jts, r2, t2, _⟩ := I.list hy
    have l1 := r1.length
    have l2 := r2.length
    have l3 := pa.length
    have l4 := pb.length
    have hu1 : A.units < cLine := by omega
    by_cases hl : as.length = bs.length
    · have he : ∀ j (h1 : j < its.toArray.size) (h2 : j < jts.toArray.size), SeqAt.EqAt A.in1 s its.toArray[j] jts.toArray[j] (decide (as[j]? = bs[j]?)) := fun j h1 h2 => by
        simp only [List.size_toArray] at h1 h2
        obtain ⟨xv, ex⟩ : ∃ xv, xs[j]? = some xv := ⟨xs[j]'(by omega), List.getElem?_eq_getElem (by omega)⟩
        obtain ⟨yv, ey⟩ : ∃ yv, ys[j]? = some yv := ⟨ys[j]'(by omega), List.getElem?_eq_getElem (by omega)⟩
        obtain ⟨u1, q1, w1⟩ := r1.get ex
        obtain ⟨u2, q2, w2⟩ := r2.get ey
        obtain ⟨a1, p1, z1⟩ := Paired.get pa ex
        obtain ⟨a2, p2, z2⟩ := Paired.get pb ey
        have g1 : its.toArray[j]'(by simpa using h1) = u1 := by
          have := List.getElem?_eq_some_iff.mp q1
          simpa using this.2
        have g2 : jts.toArray[j]'(by simpa using h2) = u2 := by
          have := List.getElem?_eq_some_iff.mp q2
          simpa using this.2
        rw [g1, g2, p1, p2]
        have := h.eq xv yv a1 a2 z1 z2 A.in1 s pins σ u1 u2 I (by show A.units + 1 + d < cLine; omega) w1 w2
        rw [show decide (some a1 = some a2) = decide (a1 = a2) by simp]
        exact this
      have hsz : its.toArray.size = jts.toArray.size := by simp; omega
      have hb : (List.range its.toArray.size).all (fun j => decide (as[j]? = bs[j]?)) = decide (as = bs) := by
        simp only [List.size_toArray]
        rw [show its.length = as.length by omega, all_range_eq hl]
      have z1 := SeqAt.RcAt.lists (A := A) (s := s) t1.isList t2.isList hsz hu1 he
      have z2 := SeqAt.RcNeAt.lists (A := A) (s := s) t1.isList t2.isList hsz hu1 he
      rw [hb] at z1 z2
      exact ⟨z1, z2⟩
    · have hsz : (its.toArray.size != jts.toArray.size) = true := by simp; omega
      rw [decide_eq_false fun e => hl (by rw [e])]
      exact ⟨SeqAt.RcAt.lists_lengths t1.isList t2.isList hsz hu1, SeqAt.RcNeAt.lists_lengths t1.isList t2.isList hsz hu1⟩
  refine ⟨?_, rc, ?_⟩
  · rintro x y as bs hx hy A s pins σ u v I hu ru rv
    obtain ⟨a, xs, rfl, hx', pa⟩ := id hx
    obtain ⟨b, ys, rfl, hy', pb⟩ := id hy
    cases ru; cases rv
    by_cases e : a = b
    · subst e
      have : xs = ys := I.list_inj hx' hy'
      subst this
      rw [paired_one h ⟨pins, σ, s, I⟩ pa pb, decide_eq_true rfl]
      exact SeqAt.EqAt.same _
    · exact SeqAt.EqAt.of_refs e (rc _ _ as bs hx hy A s pins σ _ _ I hu rfl rfl).1
  · rintro x as bs ⟨a, xs, rfl, hx, pa⟩ ⟨b, ys, e, hy, pb⟩ ⟨pins, σ, s, I⟩
    cases e
    have : xs = ys := I.list_inj hx hy
    subst this
    exact paired_one h ⟨pins, σ, s, I⟩ pa pb
/-- x == y, x != y -/
def rEqD (X : Cx) : R2 := fun x y H Q => ∃ b, RcD X H 20 x y b ∧ Q (.bl b) H
def rNeD (X : Cx) : R2 := fun x y H Q => ∃ b, RcD X H 20 x y b ∧ Q (.bl (!b)) H
theorem op_eqD (hu : X.A.units + 20 < cLine) : OpR X (compareOp .Eq) (rEqD X) := by
  intro pins s σ H x y v u Q I rx ry h
  obtain ⟨b, hb, q⟩ := h
  exact (hb X.A s pins σ v u I hu rx ry).1 X.prog X.w X.xe _ ⟨.bl b, H, I, rfl, q⟩
theorem op_neD (hu : X.A.units + 20 < cLine) : OpR X (compareOp .NotEq) (rNeD X) := by
  intro pins s σ H x y v u Q I rx ry h
  obtain ⟨b, hb, q⟩ := h
  exact (hb X.A s pins σ v u I hu rx ry).2 X.prog X.w X.xe _ ⟨.bl (!b), H, I, rfl, q⟩
open Classical in
open Classical in
end
end L2

namespace L2
open PySem PySem.Spec PyProof.Rows
section
variable {X : Cx} {pins : List (Addr × Obj)} {σ : St} {H : Hp} {s : Shared} {h' : Heap}
/-- several untracked records of ours have turned -/
theorem Inv.turnedL {t' : Nat} {ch : List Addr} (I : Inv X pins σ H s) (k : ∀ b o, b ∉ ch → s.heap.get? b = some o → h'.get? b = some o) (hf : ∀ b ∈ ch, FpOk X pins H b) : Inv X pins σ H { s with heap := h', toks := t' } := by
  have nit : ∀ b u, H b = some u → b ∉ ch := fun b u e z => by rw [(hf b z).1] at e; cases e
  refine I.step (g' := s.gens) (d' := s.drawn) (ch := ch) (fun b hb => ?_) (fun b o _ _ hc e _ => k b o hc e) (fun b o _ _ hc e _ => ⟨o.slots, k b o hc e⟩) (fun _ _ _ _ n => n)
    (fun b o hc e => ⟨o, k b o hc e⟩) (fun _ _ e => e) (fun _ _ _ e => e) (fun b ps e => ⟨#[], by rw [e]; simp⟩) (fun m hm => ?_) (fun b u e => ?_) I.bare
  · obtain ⟨_, a2, _, a4, a5, a6⟩ := hf b hb
    exact ⟨a4, a2, a5, a6⟩
  · obtain ⟨o, es, ep, ho, r⟩ := hm
    exact ⟨o, es, ep, k _ o (fun z => (hf _ z).2.1 rfl) ho, r⟩
  · refine (I.hok b u e).stay (fun c v hc q => k c v ?_ q) (fun _ q => q) fun _ _ q => q
    rcases hc with z | z
    · rw [z]; exact nit b u e
    · exact nit c _ z
/-- an object of ours that stood untracked is tracked from now on -/
theorem Inv.track {a : Addr} {o : HO} {t' : Nat} (I : Inv X pins σ H s) (hf : FpOk X pins H a) (new : ObjOk X.prog X.w (upd H a o) s.heap a o) : Inv X pins σ (upd H a o) { s with toks := t' } := by
  have hn := hf.1
  refine I.step (h' := s.heap) (g' := s.gens) (d' := s.drawn) (ch := [a]) (fun b hb => ?_) (fun b o _ _ _ e _ => e) (fun b o _ _ _ e _ => ⟨o.slots, e⟩) (fun b ob hc e n => ?_)
    (fun b o _ e => ⟨o, e⟩) (fun b xs e => by rw [upd_ne (ne_of_none e hn)]; exact e) (fun b ob u e => by rw [upd_ne (ne_of_none e hn)]; exact e) (fun b ps e => ⟨#[], by rw [upd_ne (ne_of_none e hn), e]; simp⟩) (fun m hm => hm) (I.hok.track hn new) I.bare
  · have e : b = a := by simpa using hb
    subst e
    obtain ⟨_, a2, _, a4, a5, a6⟩ := hf
    exact ⟨a4, a2, a5, a6⟩
  · rw [upd_ne (fun z => hc (by simp [z]))]; exact n
end

/-! ### for a, b in zip(l, m) of two lists -/
def Itz (K : PySem.W.Frag) (l1 l2 : Addr) : It :=
  ⟨fun i H => ∃ xs ys x y, SqL K H l1 xs ∧ SqL K H l2 ys ∧ xs[i]? = some x ∧ ys[i]? = some y,
   fun i H v H' => ∃ T x y, v = .ref T ∧ H T = none ∧ H' = upd H T (.tup [x, y]) ∧ (∀ xs, SqL K H l1 xs → xs[i]? = some x) ∧ (∀ ys, SqL K H l2 ys → ys[i]? = some y),
   fun i H => ∃ xs ys, SqL K H l1 xs ∧ SqL K H l2 ys ∧ (xs.length ≤ i ∨ ys.length ≤ i)⟩
theorem turn_zip {P : Program} {w : World} {K : PySem.W.Frag} {es : List Expr} {k : Nat} {pos : Pos} {z TI TO i1 i2 l1 l2 : Addr} (D : ZipApart z TI TO i1 i2 l1 l2) :
    Turn P w K (.Tuple es k pos) (Itz K l1 l2) [z, TI, TO, i1, i2] z (fun i h => IsZip h z TI TO .none ∧ IsPair h TI (.ref i1) (.ref i2) ∧ (∃ a b, IsPair h TO a b) ∧ h.IsListIter i1 l1 i ∧ h.IsListIter i2 l2 i) where
  mem := by simp
  obj := fun i h st b hb => by
    obtain ⟨hz, hTI, ⟨a', b', hTO⟩, ⟨o1, e1, c1, d1⟩, ⟨o2, e2, c2, d2⟩⟩ := st
    simp only [List.mem_cons, List.not_mem_nil, or_false] at hb
    rcases hb with rfl | rfl | rfl | rfl | rfl
    · exact ⟨_, hz, fun v z => nomatch z⟩
    · exact ⟨_, hTI, fun v z => nomatch z⟩
    · exact ⟨_, hTO, fun v z => nomatch z⟩
    · exact ⟨o1, e1, fun v z => by rw [d1] at z; cases z⟩
    · exact ⟨o2, e2, fun v z => by rw [d2] at z; cases z⟩
  keep := fun i h h' st kk => by
    obtain ⟨hz, hTI, ⟨a', b', hTO⟩, h1, h2⟩ := st
    exact ⟨kk z (by simp) _ hz, kk TI (by simp) _ hTI, ⟨a', b', kk TO (by simp) _ hTO⟩, h1.at fun o e => kk i1 (by simp) o e, h2.at fun o e => kk i2 (by simp) o e⟩
  item := by
    intro X hP hw hK hc i pins s σ H E I hf st hg
    subst hP hw hK
    obtain ⟨xs, ys, x, y, hq1, hq2, hx, hy⟩ := hg
    obtain ⟨its, rv, p1, _⟩ := I.list hq1
    obtain ⟨jts, rw', p2, _⟩ := I.list hq2
    obtain ⟨u1, hu1, ru1⟩ := rv.get hx
    obtain ⟨u2, hu2, ru2⟩ := rw'.get hy
    obtain ⟨hz, hTI, ⟨a, b, hTO⟩, h1, h2⟩ := st
    refine wpAny_pyNext_zip_item D hz hTI hTO h1 h2 p1.isList p2.isList (x := u1) (y := u2) (by simpa using hu1) (by simpa using hu2) fun h' a1 a2 a3 a4 a5 a6 hk => ?_
    refine ⟨_, rfl, wpAny_letOwnedTupleGo_zip a1 fun h'' hz'' hs'' => ?_⟩
    have hne : ∀ c, c ∈ [z, TI, TO, i1, i2] → s.heap.objs.size ≠ c := fun c hc => by
      have : ∃ o, s.heap.get? c = some o := by
        simp only [List.mem_cons, List.not_mem_nil, or_false] at hc
        obtain ⟨o1, e1, _⟩ := id h1
        obtain ⟨o2, e2, _⟩ := id h2
        rcases hc with rfl | rfl | rfl | rfl | rfl
        · exact ⟨_, hz⟩
        · exact ⟨_, hTI⟩
        · exact ⟨_, hTO⟩
        · exact ⟨_, e1⟩
        · exact ⟨_, e2⟩
      obtain ⟨o, e⟩ := this
      exact Nat.ne_of_gt (Heap.lt_size e)
    have I1 : Inv X pins σ H { s with heap := h'' } := I.turnedL (t' := s.toks) (ch := [z, TI, TO, i1, i2]) (fun c o hc e => hs''.extBut _ _ (fun q => hc (by simp [q])) (hk c o (fun q => hc (by simp [q])) (fun q => hc (by simp [q])) (fun q => hc (by simp [q])) (fun q => hc (by simp [q])) e)) hf
    have hT : h''.get? s.heap.objs.size = some { cls := .type "tuple", data := .seq #[u1, u2] } := hs''.extBut _ _ (hne z (by simp)) a5
    have I2 : Inv X pins σ (upd H s.heap.objs.size (.tup [x, y])) { s with heap := h'' } := I1.track (t' := s.toks) (I.fpOk (Nat.le_refl _) (I.hok.fresh (Nat.le_refl _))) ⟨by show 2 ≤ sizeLine; decide, [u1, u2], .cons ru1 (.cons ru2 .nil), ⟨_, hT, rfl, _, rfl⟩⟩
    refine ⟨.ref s.heap.objs.size, _, I2, rfl, ⟨_, x, y, rfl, I.hok.fresh (Nat.le_refl _), rfl, fun xs' h => by rw [I.list_inj h hq1]; exact hx, fun ys' h => by rw [I.list_inj h hq2]; exact hy⟩, ⟨hz'', hs''.extBut _ _ D.TIz (hk _ _ D.TIz D.TITO D.TIi1 D.TIi2 hTI), ⟨_, _, hs''.extBut _ _ D.TOz a2⟩, a3.extBut hs''.extBut D.i1z, a4.extBut hs''.extBut D.i2z⟩, fun c hc => ?_⟩
    rw [upd_ne (Ne.symm (hne c hc))]
    exact (hf c hc).1
  done := by
    intro X hP hw hK hc i pins s σ H E I hf st hg
    subst hP hw hK
    obtain ⟨xs, ys, hq1, hq2, hx⟩ := hg
    obtain ⟨its, rv, p1, _⟩ := I.list hq1
    obtain ⟨jts, rw', p2, _⟩ := I.list hq2
    obtain ⟨hz, hTI, ⟨a, b, hTO⟩, h1, h2⟩ := st
    have l1 := rv.length
    have l2 := rw'.length
    refine wpAny_pyNext_zip_end (I.ok.hd hc) D hz hTI hTO h1 h2 p1.isList p2.isList ?_ fun h' hk => ⟨rfl, ?_⟩
    · rcases hx with z | z
      · exact .inl (by simp; omega)
      · exact .inr (by simp; omega)
    · exact I.turnedL (t' := s.toks) (ch := [z, TI, TO, i1, i2]) (fun c o hc e => hk c o (fun q => hc (by simp [q])) (fun q => hc (by simp [q])) (fun q => hc (by simp [q])) (fun q => hc (by simp [q])) e) hf
  self := fun _ _ _ _ _ st h => wpAny_pyIter_zip st.1 h
def iZip (K : PySem.W.Frag) (ta : TA) : TI := fun σ H R => ta σ H fun vs H1 => ∃ l1 l2 xs ys, vs = [.ref l1, .ref l2] ∧ SqL K H1 l1 xs ∧ SqL K H1 l2 ys ∧ R (Itz K l1 l2) H1
theorem pi_zip {X : Cx} {a b : Expr} {ta : TA} {p pos : Pos} {es : List Expr} {k : Nat} {pt : Pos} (hg : Gl X "zip") (hm : X.mg "zip" = none) (ha : PA X [a, b] ta)
    (hs : starEach [a, b] X.env = [(false, eval a X.env), (false, eval b X.env)] := by rfl) (hs2 : starEach [b] X.env = [(false, eval b X.env)] := by rfl) (hv : bootBuiltins "zip" = some (.type "zip") := by decide +kernel) :
    PI X (.Tuple es k pt) (.Call (.Name "zip" p) [a, b] [] pos) (iZip X.K ta) := by
  intro pins s σ H R I h
  refine Call_ (ld_blt I hg hm hv (PyProof.Rows.callWith_type1 (thn (ha pos pins s σ H _ I h) fun us s1 ⟨vs, H1, I1, r1, q1⟩ => ?_) (by rw [hs, hs2]) (by rw [hs2]; rfl)))
  obtain ⟨l1, l2, xs, ys, e, hq1, hq2, q⟩ := q1
  subst e
  cases r1 with
  | cons r rr =>
    cases rr with
    | cons r' rr =>
      cases rr
      cases r
      cases r'
      obtain ⟨its, rv, p1, _⟩ := I1.list hq1
      obtain ⟨jts, rw', p2, _⟩ := I1.list hq2
      have lt1 : l1 < s1.heap.objs.size := by obtain ⟨o, n, e, _⟩ := p1; exact Heap.lt_size e
      have lt2 : l2 < s1.heap.objs.size := by obtain ⟨o, n, e, _⟩ := p2; exact Heap.lt_size e
      refine call_zip_2 p1.isList p2.isList fun h' hz hTI hTO hi1 hi2 hsz hk => wpAny_pyIter_zip hz ?_
      refine ⟨_, [_, _, _, _, _], _, Itz X.K l1 l2, H1, rfl, I1.kept (t' := s1.toks) hk, turn_zip (zipApart_new lt1 lt2), ⟨hz, hTI, ⟨_, _, hTO⟩, hi1, hi2⟩, fun b hb => ?_, q⟩
      have hb' : s1.heap.objs.size ≤ b := by
        simp only [List.mem_cons, List.not_mem_nil, or_false] at hb
        rcases hb with rfl | rfl | rfl | rfl | rfl <;> omega
      exact I1.fpOk hb' (I1.hok.fresh hb')
theorem for_zip {K : PySem.W.Frag} {l1 l2 : Addr} {xs ys : List V} {g : TG} {tb : TS} {D : Ends} {σ : St} {H : Hp} (hlen : xs.length = ys.length) (Pv : Nat → St → Hp → Prop) (h0 : Pv 0 σ H) (hl : ∀ i σ H, i ≤ xs.length → Pv i σ H → SqL K H l1 xs ∧ SqL K H l2 ys)
    (hs : ∀ i x y T σ H, xs[i]? = some x → ys[i]? = some y → H T = none → Pv i σ H → g (.ref T) σ (upd H T (.tup [x, y])) fun σ2 H2 => tb { D with nx := Pv (i + 1), ct := Pv (i + 1), bk := D.nx } σ2 H2) (hd : ∀ σ H, Pv xs.length σ H → D.nx σ H) :
    ∃ W : Nat → Nat → St → Hp → Prop, (∃ m, W 0 m σ H) ∧ ∀ i m σ H, W i m σ H →
      ((Itz K l1 l2).stop i H ∧ D.nx σ H) ∨ ((Itz K l1 l2).go i H ∧ ∃ N : St → Hp → Prop, (∀ σ' H', N σ' H' → ∃ m', m' < m ∧ W (i + 1) m' σ' H') ∧ ∀ x H', (Itz K l1 l2).yld i H x H' → g x σ H' fun σ2 H2 => tb { D with nx := N, ct := N, bk := D.nx } σ2 H2) := by
  refine ⟨fun i m σ H => m = xs.length - i ∧ i ≤ xs.length ∧ Pv i σ H, ⟨xs.length, by simp, Nat.zero_le _, h0⟩, ?_⟩
  rintro i m σ H ⟨rfl, hi, p⟩
  obtain ⟨q1, q2⟩ := hl i σ H hi p
  by_cases hlt : i < xs.length
  · refine .inr ⟨⟨xs, ys, xs[i], ys[i], q1, q2, by simp [hlt], by simp [← hlen, hlt]⟩, Pv (i + 1), fun σ' H' p' => ⟨xs.length - (i + 1), by omega, rfl, hlt, p'⟩, fun x H' y => ?_⟩
    obtain ⟨T, a, b, e1, hn, e2, ya, yb⟩ := y
    subst e1 e2
    exact hs i a b T σ _ (ya xs q1) (yb ys q2) hn p
  · have e : i = xs.length := by omega
    subst e
    exact .inl ⟨⟨xs, ys, q1, q2, .inl (Nat.le_refl _)⟩, hd σ H p⟩

/-! ### the comprehension's forms -/
theorem lc_range {lo : Int} {n : Nat} {cap : St} {tt : TT} {te : TE} {H : Hp} {P : List V → Hp → Prop} (Pv : Nat → List V → Hp → Prop) (h0 : Pv 0 [] H) (hn : n < sizeLine) (hb : ∀ i ys H, Pv i ys H → ys.length ≤ i)
    (hs : ∀ i ys H, i < n → Pv i ys H → tt (some (.int (lo + i)) :: cap) H fun b H3 => if b = true then te (some (.int (lo + i)) :: cap) H3 fun v H4 => Pv (i + 1) (ys ++ [v]) H4 else Pv (i + 1) ys H3) (hd : ∀ ys H, Pv n ys H → P ys H) :
    LcLoop (Itr lo n) cap tt te H P := by
  refine ⟨fun i m ys H => m = n - i ∧ i ≤ n ∧ Pv i ys H, ⟨n, by simp, Nat.zero_le _, h0⟩, ?_⟩
  rintro i m ys H ⟨rfl, hi, p⟩
  have hl := hb i ys H p
  by_cases hlt : i < n
  · refine .inr ⟨hlt, by omega, Pv (i + 1), fun σ' H' p' => ⟨n - (i + 1), by omega, rfl, hlt, p'⟩, fun x H' y => ?_⟩
    obtain ⟨e, y⟩ := y
    subst e y
    exact hs i ys _ hlt p
  · have e : i = n := by omega
    subst e
    exact .inl ⟨Nat.le_refl _, by omega, hd ys H p⟩
theorem lc_list {K : PySem.W.Frag} {a : Addr} {xs : List V} {cap : St} {tt : TT} {te : TE} {H : Hp} {P : List V → Hp → Prop} (Pv : Nat → List V → Hp → Prop) (h0 : Pv 0 [] H) (hn : xs.length < sizeLine) (hb : ∀ i ys H, Pv i ys H → ys.length ≤ i) (hl : ∀ i ys H, i ≤ xs.length → Pv i ys H → SqL K H a xs)
    (hs : ∀ i x ys H, xs[i]? = some x → Pv i ys H → tt (some x :: cap) H fun b H3 => if b = true then te (some x :: cap) H3 fun v H4 => Pv (i + 1) (ys ++ [v]) H4 else Pv (i + 1) ys H3) (hd : ∀ ys H, Pv xs.length ys H → P ys H) :
    LcLoop (Itl K a) cap tt te H P := by
  refine ⟨fun i m ys H => m = xs.length - i ∧ i ≤ xs.length ∧ Pv i ys H, ⟨xs.length, by simp, Nat.zero_le _, h0⟩, ?_⟩
  rintro i m ys H ⟨rfl, hi, p⟩
  have hyl := hb i ys H p
  have q := hl i ys H hi p
  by_cases hlt : i < xs.length
  · refine .inr ⟨⟨xs, xs[i], q, by simp [hlt]⟩, by omega, Pv (i + 1), fun σ' H' p' => ⟨xs.length - (i + 1), by omega, rfl, hlt, p'⟩, fun x H' y => ?_⟩
    obtain ⟨e, y⟩ := y
    subst e
    exact hs i x ys _ (y xs q) p
  · have e : i = xs.length := by omega
    subst e
    exact .inl ⟨⟨xs, q, Nat.le_refl _⟩, by omega, hd ys H p⟩
theorem lc_tup {K : PySem.W.Frag} {a : Addr} {xs : List V} {cap : St} {tt : TT} {te : TE} {H : Hp} {P : List V → Hp → Prop} (Pv : Nat → List V → Hp → Prop) (h0 : Pv 0 [] H) (hn : xs.length < sizeLine) (hb : ∀ i ys H, Pv i ys H → ys.length ≤ i) (hl : ∀ i ys H, i ≤ xs.length → Pv i ys H → SqT K H a xs)
    (hs : ∀ i x ys H, xs[i]? = some x → Pv i ys H → tt (some x :: cap) H fun b H3 => if b = true then te (some x :: cap) H3 fun v H4 => Pv (i + 1) (ys ++ [v]) H4 else Pv (i + 1) ys H3) (hd : ∀ ys H, Pv xs.length ys H → P ys H) :
    LcLoop (Itt K a) cap tt te H P := by
  refine ⟨fun i m ys H => m = xs.length - i ∧ i ≤ xs.length ∧ Pv i ys H, ⟨xs.length, by simp, Nat.zero_le _, h0⟩, ?_⟩
  rintro i m ys H ⟨rfl, hi, p⟩
  have hyl := hb i ys H p
  have q := hl i ys H hi p
  by_cases hlt : i < xs.length
  · refine .inr ⟨⟨xs, xs[i], q, by simp [hlt]⟩, by omega, Pv (i + 1), fun σ' H' p' => ⟨xs.length - (i + 1), by omega, rfl, hlt, p'⟩, fun x H' y => ?_⟩
    obtain ⟨e, y⟩ := y
    subst e
    exact hs i x ys _ (y xs q) p
  · have e : i = xs.length := by omega
    subst e
    exact .inl ⟨⟨xs, q, Nat.le_refl _⟩, by omega, hd ys H p⟩

/-! ### defs, methods, classes in one piece -/
section
variable (P : Program) (w : World) (K : PySem.W.Frag) (mg : Str → Option Value) (base : Heap) (k : Nat)
def FnB (x : Str) (ps : List Str) (sp : Sp) : Prop := ∃ f fd, FnOk P w K mg base CX0 k f fd ps sp ∧ mg x = some (.ref f) ∧ PySem.W.keepIn K (.ref f) = true ∧ Binds K fd ps []
def MeB (C : Addr) (m : Str) (ps : List Str) (sp : Sp) : Prop := ∃ f fd, FnOk P w K mg base CX0 k f fd ps sp ∧ Meth K C m f ∧ Binds K fd ps [] ∧ Cls K C
def MkB (x : Str) (C : Addr) (ps : List Str) (sp : Sp) : Prop := ∃ f fd, FnOk P w K mg base CX0 k f fd ps sp ∧ mg x = some (.ref C) ∧ Mk K C f ∧ Binds K fd ps []
end
section
variable {X : Cx} {k : Nat} {x m : Str} {C : Addr} {ps : List Str} {sp : Sp} {p pos apos : Pos} {e o : Expr} {es : List Expr} {ta : TE} {t : TA}
theorem pe_fn (F : FnB X.prog X.w X.K X.mg X.base k x ps sp) (hr : Room k X.A) (ha : PA X (e :: es) t) (hg : Gl X x := by rfl) (hdb : (x == ("__debug__" : Str)) = false := by decide) (he : starEach (e :: es) X.env = (false, eval e X.env) :: starEach es X.env := by rfl) (hpl : (backTo pos (starEach es X.env)).any (·.1) = false := by rfl) :
    PE X (.Call (.Name x p) (e :: es) [] pos) (tCall sp [] E0 t) := by
  obtain ⟨f, fd, F, hm, hk, hb⟩ := F
  exact pe_call F hr hg hm hk hb .nil pass0 ha hdb he hpl
theorem pe_me {pl : Sem Bool} (M : MeB X.prog X.w X.K X.mg X.base k C m ps sp) (he : PE X o ta) (hr : Room k X.A) (ha : PA X (e :: es) t)
    (hst : starEach (e :: es) X.env = (false, eval e X.env) :: starEach es X.env := by rfl) (hpl : (backTo pos (starEach es X.env)).any (·.1) = false := by rfl)
    (ht : eval (.Call (.Attribute o m apos) (e :: es) [] pos) X.env = (do
      let ov ← eval o X.env
      standAt apos.atName
      let (f, first) ← holding [ov] (getMethod ov m pl)
      callWith pos f first (backTo pos (starEach (e :: es) X.env)) (backToKw pos (keywordEach [] X.env))) := by rfl) :
    PE X (.Call (.Attribute o m apos) (e :: es) [] pos) (tMeth C m sp [] E0 ta t) := by
  obtain ⟨f, fd, F, hm, hb, hc⟩ := M
  exact pe_meth he hc hm F hr hb .nil pass0 ha hst hpl ht
theorem pe_me0 {pl : Sem Bool} (M : MeB X.prog X.w X.K X.mg X.base k C m ps sp) (he : PE X o ta) (hr : Room k X.A)
    (ht : eval (.Call (.Attribute o m apos) [] [] pos) X.env = (do
      let ov ← eval o X.env
      standAt apos.atName
      let (f, first) ← holding [ov] (getMethod ov m pl)
      callWith pos f first (backTo pos (starEach [] X.env)) (backToKw pos (keywordEach [] X.env))) := by rfl) :
    PE X (.Call (.Attribute o m apos) [] [] pos) (tMeth C m sp [] E0 ta tNil) := by
  obtain ⟨f, fd, F, hm, hb, hc⟩ := M
  exact pe_meth0 he hc hm F hr hb .nil pass0 ht
theorem pe_mk (M : MkB X.prog X.w X.K X.mg X.base k x C ps sp) (hr : Room (k + 1) X.A) (ha : PA X (e :: es) t) (hg : Gl X x := by rfl) (hdb : (x == ("__debug__" : Str)) = false := by decide) (he : starEach (e :: es) X.env = (false, eval e X.env) :: starEach es X.env := by rfl) (hpl : (backTo pos (starEach es X.env)).any (·.1) = false := by rfl) :
    PE X (.Call (.Name x p) (e :: es) [] pos) (tMake C sp [] E0 t) := by
  obtain ⟨f, fd, F, hm, hM, hb⟩ := M
  exact pe_make hM F hr hg hm hb .nil pass0 ha hdb he hpl
end
theorem Room.u20 {k : Nat} {A : Around} (r : Room k A) : A.units + 20 < cLine := by have := r.un; omega
theorem Same.new {H : Hp} {a : Addr} {o : HO} (h : H a = none) : Same H (upd H a o) := fun b u e => by rw [upd_ne (ne_of_none e h)]; exact e
theorem Same.lay {H H' : Hp} {a : Addr} {o : HO} (s : Same H H') (h : H' a = none) : Same H (upd H' a o) := s.trans (Same.new h)
/-- an object that was not there is changed -/
theorem Same.put {H H' : Hp} {a : Addr} {o : HO} (s : Same H H') (h : H a = none) : Same H (upd H' a o) := fun b u e => by rw [upd_ne (ne_of_none e h)]; exact s b u e

end L2

namespace L2
open PySem PySem.Spec PyProof.Rows
section
variable {X : Cx} {k : Nat} {x m : Str} {ps : List Str} {sp : Sp} {p pos apos : Pos} {e o : Expr} {es : List Expr} {ta : TE} {t : TA}
/-- o.m(..) of an instance of one of several classes -/
def tMethU (S : Addr → Prop) (m : Str) (sp : Sp) (ta : TE) (t : TA) : TE := fun σ H Q => ta σ H fun x H1 => ∃ C a dx fs, S C ∧ x = .ref a ∧ H1 a = some (.ins C dx fs) ∧ fs.lookup m = none ∧
  t σ H1 fun vs H2 => sp (x :: (vs ++ [])) H2 Q E0
theorem pe_meU {pl : Sem Bool} {S : Addr → Prop} (M : ∀ C, S C → MeB X.prog X.w X.K X.mg X.base k C m ps sp) (he : PE X o ta) (hr : Room k X.A) (ha : PA X (e :: es) t)
    (hst : starEach (e :: es) X.env = (false, eval e X.env) :: starEach es X.env := by rfl) (hpl : (backTo pos (starEach es X.env)).any (·.1) = false := by rfl)
    (ht : eval (.Call (.Attribute o m apos) (e :: es) [] pos) X.env = (do
      let ov ← eval o X.env
      standAt apos.atName
      let (f, first) ← holding [ov] (getMethod ov m pl)
      callWith pos f first (backTo pos (starEach (e :: es) X.env)) (backToKw pos (keywordEach [] X.env))) := by rfl) :
    PE X (.Call (.Attribute o m apos) (e :: es) [] pos) (tMethU S m sp ta t) := by
  intro pins s σ H Q I h
  refine PySem.W.methodCall_KW (pl := pl) (thn (he pins s σ H _ I h) fun u s1 ⟨x, H1, I1, rx, C, a, dx, fs, hS, ex, ea, l, q⟩ => ?_) ht
  subst ex
  obtain rfl : u = Value.ref a := rx
  obtain ⟨f, fd, F, hm, hb, c⟩ := M C hS
  refine getmeth_ok I1 ea c hm l ?_
  refine PySem.W.callWith_K (first := [.ref a]) (h₀ := X.base) I.ok.mod.kin hm.kp (thn (ha pos pins s1 σ H1 _ I1 q) fun us s2 ⟨vs, H2, I2, r, q2⟩ => ⟨I2.kIn, ?_⟩) hst hpl
  exact run_fn (us := .ref a :: us) (vs := .ref a :: vs) F hr hb .nil pass0 I2 (.cons rfl r) q2
end
/-! ### texts -/
section
variable {X : Cx}
open Builtin Builtin.Str in
end

theorem for_rangeN {n : Nat} {g : TG} {tb : TS} {D : Ends} {σ : St} {H : Hp} (Pv : Nat → St → Hp → Prop) (h0 : Pv 0 σ H)
    (hs : ∀ (i : Nat) σ H, i < n → Pv i σ H → g (.int (i : Int)) σ H fun σ2 H2 => tb { D with nx := Pv (i + 1), ct := Pv (i + 1), bk := D.nx } σ2 H2) (hd : ∀ σ H, Pv n σ H → D.nx σ H) :
    ∃ W : Nat → Nat → St → Hp → Prop, (∃ m, W 0 m σ H) ∧ ∀ i m σ H, W i m σ H →
      ((Itr 0 n).stop i H ∧ D.nx σ H) ∨ ((Itr 0 n).go i H ∧ ∃ N : St → Hp → Prop, (∀ σ' H', N σ' H' → ∃ m', m' < m ∧ W (i + 1) m' σ' H') ∧ ∀ x H', (Itr 0 n).yld i H x H' → g x σ H' fun σ2 H2 => tb { D with nx := N, ct := N, bk := D.nx } σ2 H2) :=
  for_range (lo := 0) (n := n) Pv h0 (fun i σ H hi p => by rw [Int.zero_add]; exact hs i σ H hi p) hd
theorem lc_rangeN {n : Nat} {cap : St} {tt : TT} {te : TE} {H : Hp} {P : List V → Hp → Prop} (Pv : Nat → List V → Hp → Prop) (h0 : Pv 0 [] H) (hn : n < sizeLine) (hb : ∀ i ys H, Pv i ys H → ys.length ≤ i)
    (hs : ∀ (i : Nat) ys H, i < n → Pv i ys H → tt (some (.int (i : Int)) :: cap) H fun b H3 => if b = true then te (some (.int (i : Int)) :: cap) H3 fun v H4 => Pv (i + 1) (ys ++ [v]) H4 else Pv (i + 1) ys H3) (hd : ∀ ys H, Pv n ys H → P ys H) :
    LcLoop (Itr 0 n) cap tt te H P := lc_range (lo := 0) (n := n) Pv h0 hn hb (fun i ys H hi p => by rw [Int.zero_add]; exact hs i ys H hi p) hd
section
variable {X : Cx} {a e : Expr} {ta te : TE} {apos cpos : Pos}
/-- xs.append(e), xs.extend(e) -/
theorem pe_append (ha : PE X a ta) (he : PE X e te) (hbase : attributeBase a "append" X.env (eval a X.env) = eval a X.env := by rfl)
    (hfew : ((backTo cpos (starEach [e] X.env)).all (fun x => !x.1) && (backToKw cpos (keywordEach [] X.env)).all (fun x => x.1.isSome)
      && decide (([e] : List Expr).length + ([] : List Keyword).length + (if ([] : List Keyword).isEmpty then 0 else 1) < 30)) = true := by rfl)
    (hline : (apos.endLine == cpos.line) = true := by rfl) (hs : starEach [e] X.env = (false, eval e X.env) :: starEach [] X.env := by rfl) (hplain : (backTo cpos (starEach [] X.env)).any (·.1) = false := by rfl) :
    PE X (.Call (.Attribute a "append" apos) [e] [] cpos) (tBM X.K "list" rAppend ta (tCons te tNil)) :=
  pe_bm PySem.F.plainAttrs_list PySem.F.slot_list_append PySem.F.type_list_append mt_append ha (pa_cons he pa_nil hs) hbase hfew hline hs hplain
theorem pe_extend (ha : PE X a ta) (he : PE X e te) (hbase : attributeBase a "extend" X.env (eval a X.env) = eval a X.env := by rfl)
    (hfew : ((backTo cpos (starEach [e] X.env)).all (fun x => !x.1) && (backToKw cpos (keywordEach [] X.env)).all (fun x => x.1.isSome)
      && decide (([e] : List Expr).length + ([] : List Keyword).length + (if ([] : List Keyword).isEmpty then 0 else 1) < 30)) = true := by rfl)
    (hline : (apos.endLine == cpos.line) = true := by rfl) (hs : starEach [e] X.env = (false, eval e X.env) :: starEach [] X.env := by rfl) (hplain : (backTo cpos (starEach [] X.env)).any (·.1) = false := by rfl) :
    PE X (.Call (.Attribute a "extend" apos) [e] [] cpos) (tBM X.K "list" rExtend ta (tCons te tNil)) :=
  pe_bm PySem.F.plainAttrs_list PySem.F.slot_list_extend PySem.F.type_list_extend mt_extend ha (pa_cons he pa_nil hs) hbase hfew hline hs hplain
end
end L2

namespace L2
open PySem PySem.Spec PyProof.Rows
section
variable {X : Cx}
theorem vals_items {F : Nat → Int} : ∀ (l : List Value) (n : Nat), l.length = n → (∀ i v, l[i]? = some v → ∃ t, v = Value.int (F i) t) → Vals ((List.range n).map fun k => V.int (F k)) l := by
  intro l n hl h
  have : ∀ (l : List Value) (k n : Nat), l.length = n → (∀ i v, l[i]? = some v → ∃ t, v = Value.int (F (k + i)) t) → Vals ((List.range' k n).map fun k => V.int (F k)) l := by
    intro l
    induction l with
    | nil => intro k n hl _; subst hl; exact .nil
    | cons a l ih =>
      intro k n hl h
      cases n with
      | zero => cases hl
      | succ n =>
        rw [List.range'_succ, List.map_cons]
        refine .cons ?_ (ih (k + 1) n (by simpa using hl) fun i v e => ?_)
        · exact h 0 a rfl
        · have := h (i + 1) v (by simpa using e)
          rw [Nat.add_assoc, Nat.add_comm 1 i]
          exact this
  rw [List.range_eq_range']
  exact this l 0 n hl fun i v e => by rw [Nat.zero_add]; exact h i v e
/-- a list of written ints -/
def intsOf : List Expr → Option (List Int)
  | [] => some []
  | .Constant (.int i) _ _ :: es => (intsOf es).map (i :: ·)
  | _ => none
theorem pa_ints : ∀ {es : List Expr} {ns : List Int}, intsOf es = some ns → PA X es (fun _ H Q => Q (ns.map V.int) H)
  | [], ns, h => by
    cases h
    exact pa_nil
  | e :: es, ns, h => by
    cases e with
    | Constant c k pos =>
      cases c with
      | int i =>
        have h' : (intsOf es).map (i :: ·) = some ns := h
        cases hq : intsOf es with
        | none => rw [hq] at h'; cases h'
        | some ms =>
          rw [hq] at h'
          have e' : i :: ms = ns := Option.some.inj h'
          subst e'
          exact pa_cons (te := tC (.int i)) pe_int (pa_ints hq) rfl
      | _ => cases h
    | _ => cases h
end
end L2

namespace L2
open PySem PySem.Spec PyProof.Rows
section
variable {X : Cx}
end

/-! ### the same rules where the context is a block's: the written part said -/
section
variable {X : Cx} {K : PySem.W.Frag}
theorem ix_listK (K : PySem.W.Frag) (hK : X.K = K := by rfl) : IxR X (rIxL K) := by subst hK; exact ix_list
end
end L2

namespace L2
open PySem PySem.Spec PyProof.Rows
/-! ### try, whose body is left as it should be -/
/-- the same place, another word for what is raised -/
def Cx.catch (X : Cx) (E : Value → Shared → Prop) : Cx := { X with xe := E }
section
variable {X : Cx}
theorem Inv.catch {E : Value → Shared → Prop} {pins : List (Addr × Obj)} {σ : St} {H : Hp} {s : Shared} (I : Inv X pins σ H s) : Inv (X.catch E) pins σ H s :=
  ⟨⟨I.ok.mod, I.ok.kind, I.ok.glob, I.ok.blt, I.ok.above, I.ok.inj, I.ok.has, I.ok.cab, I.ok.hd, I.ok.frames, I.ok.stk, I.ok.exf, I.ok.bs, I.ok.bsz, I.ok.noex, I.ok.exfs, I.ok.funs, I.ok.frf⟩, I.os, I.bare, I.base, I.loc, I.cell, I.free, I.freeC, I.pin, I.hok, I.len⟩
theorem Inv.uncatch {E : Value → Shared → Prop} {pins : List (Addr × Obj)} {σ : St} {H : Hp} {s : Shared} (I : Inv (X.catch E) pins σ H s) : Inv X pins σ H s :=
  ⟨⟨I.ok.mod, I.ok.kind, I.ok.glob, I.ok.blt, I.ok.above, I.ok.inj, I.ok.has, I.ok.cab, I.ok.hd, I.ok.frames, I.ok.stk, I.ok.exf, I.ok.bs, I.ok.bsz, I.ok.noex, I.ok.exfs, I.ok.funs, I.ok.frf⟩, I.os, I.bare, I.base, I.loc, I.cell, I.free, I.freeC, I.pin, I.hok, I.len⟩
theorem SP.uncatch {E : Value → Shared → Prop} {pins : List (Addr × Obj)} {D : Ends} {f : Flow} {s : Shared} (h : SP (X.catch E) pins D f s) : SP X pins D f s := by
  cases f with
  | next => obtain ⟨σ, H, I, q⟩ := h; exact ⟨σ, H, I.uncatch, q⟩
  | brk => obtain ⟨σ, H, I, q⟩ := h; exact ⟨σ, H, I.uncatch, q⟩
  | cont => obtain ⟨σ, H, I, q⟩ := h; exact ⟨σ, H, I.uncatch, q⟩
  | ret u => obtain ⟨v, σ, H, I, r, q⟩ := h; exact ⟨v, σ, H, I.uncatch, r, q⟩
theorem ps_try {body : List Stmt} {h₀ : ExceptHandler} {hs : List ExceptHandler} {pos : Pos} {t : TS} (hb : ∀ E, PSs (X.catch E) body t) : PS X (.Try body (h₀ :: hs) [] [] pos) t := by
  intro pins s σ H D I h
  refine wpAny_Try_except (wpAny_mono (hb (fun e s₁ => wpAny (model X.prog X.w) X.A (noteFrame e X.env) (fun _ s₂ => wpAny (model X.prog X.w) X.A (setFlight e none) (fun _ s₃ => wpAny (model X.prog X.w) X.A (handleBy e X.env (h₀ :: hs)) (SP X pins D) X.xe s₃) X.xe s₂) X.xe s₁) pins s σ H D I.catch h) (fun f s1 q => ?_) fun _ _ e => e)
  have q' := SP.uncatch q
  cases f with
  | next => exact wpAny_execs_nil q'
  | brk => exact q'
  | cont => exact q'
  | ret u => exact q'
/-! ### sum of a list of ints -/
def rSum (K : PySem.W.Frag) : List V → Hp → VK → Prop := fun xs H Q => ∃ (l : Addr) (ns : List Int), xs = [.ref l] ∧ SqL K H l (ns.map V.int) ∧ Q (.int ns.sum) H
theorem call_sum (hc : X.calm = true) : CallR X (.builtin "sum") (rSum X.K) := by
  intro pins s σ H xs us Q I r h
  obtain ⟨l, ns, rfl, hl, q⟩ := h
  obtain ⟨u, rfl, ru⟩ := vals1 r
  cases ru
  obtain ⟨its, rv, pl, _⟩ := I.list hl
  have hi := intsAre_of rv
  obtain ⟨xs, hx⟩ := hi.allInts.items
  have hl' : s.heap.IsList l (intItems xs) := hx ▸ pl.isList
  refine sum_intListG (I.ok.hd hc) hl' fun h' tk t' hk => ?_
  have e1 : ns = xs.toList.map (·.1) := by
    rw [← nums_intItems, ← hx]
    exact (show numsOf its.toArray.toList = ns from hi.numsOf).symm
  have e2 : preSum (numAt xs) xs.size = ns.sum := by
    rw [preSum_eq, List.take_of_length_le (by simp), e1]
  rw [e2]
  exact ⟨.int _, H, I.kept (t' := tk) hk, ⟨t', rfl⟩, q⟩
/-! ### len(set(list of ints)) -/
/-! ### xs[::-1] -/
theorem pick_rev (its : List Value) : slicePick its.toArray none none (some (-1)) = its.reverse.toArray := by
  unfold slicePick
  have e : sliceBounds none none (some (-1)) its.toArray.size = ((its.length : Int) - 1, -1, -1) := by simp [sliceBounds]
  rw [e]
  dsimp only
  congr 1
  have e2 : sliceRange ((its.length : Int) - 1) (-1) (-1) = (List.range its.length).map fun k => its.length - 1 - k := by
    unfold sliceRange
    have ec : (if (-1 : Int) > 0 then (if ((its.length : Int) - 1) < -1 then (-1 - ((its.length : Int) - 1) + -1 - 1) / -1 else 0) else (if ((its.length : Int) - 1) > -1 then (((its.length : Int) - 1) - -1 - -1 - 1) / (- -1) else 0)) = (its.length : Int) := by
      rw [if_neg (by decide)]
      split
      · rw [show (- -1 : Int) = 1 by decide, Int.ediv_one]; omega
      · omega
    dsimp only
    rw [ec, Int.toNat_natCast]
    apply List.map_congr_left
    intro k hk
    have := List.mem_range.mp hk
    omega
  rw [e2, List.filterMap_map]
  apply List.ext_getElem?
  intro i
  have e3 : ((List.range its.length).filterMap ((fun x => its.toArray[x]?) ∘ fun k => its.length - 1 - k)) = (List.range its.length).map fun k => its.reverse.getD k .none := by
    have : ∀ (l : List Nat), (∀ k ∈ l, k < its.length) → l.filterMap ((fun x => its.toArray[x]?) ∘ fun k => its.length - 1 - k) = l.map fun k => its.reverse.getD k .none := by
      intro l
      induction l with
      | nil => intro _; rfl
      | cons k l ih =>
        intro h
        have hk := h k List.mem_cons_self
        have e : ((fun x => its.toArray[x]?) ∘ fun k => its.length - 1 - k) k = some (its.reverse.getD k .none) := by
          show its.toArray[its.length - 1 - k]? = some (its.reverse.getD k .none)
          rw [List.getD_eq_getElem?_getD, List.getElem?_reverse hk, List.getElem?_toArray, List.getElem?_eq_getElem (by omega)]
          rfl
        rw [List.filterMap_cons_some e, List.map_cons, ih fun j hj => h j (List.mem_cons_of_mem _ hj)]
    exact this _ fun k hk => List.mem_range.mp hk
  rw [e3]
  by_cases hi : i < its.length
  · rw [List.getElem?_map, List.getElem?_range hi]
    show some (its.reverse.getD i .none) = _
    rw [List.getD_eq_getElem?_getD, List.getElem?_eq_getElem (by simpa using hi)]
    rfl
  · rw [List.getElem?_eq_none_iff.mpr (by simp; omega), List.getElem?_eq_none_iff.mpr (by simp; omega)]
def tRev (K : PySem.W.Frag) (te : TE) : TE := fun σ H Q => te σ H fun x H1 => ∃ (l : Addr) (xs : List V), x = .ref l ∧ SqL K H1 l xs ∧ ∀ p, H1 p = none → Q (.ref p) (upd H1 p (.lst xs.reverse))
theorem Vals.rev : ∀ {xs : List V} {us : List Value}, Vals xs us → Vals xs.reverse us.reverse
  | _, _, .nil => .nil
  | _, _, .cons r t => by rw [List.reverse_cons, List.reverse_cons]; exact (Vals.rev t).append (.cons r .nil)
theorem pe_rev {e one : Expr} {te : TE} {p1 p2 pos : Pos} (he : PE X e te) (h1 : PE X one (tC (.int 1))) :
    PE X (.Subscript e (.Slice none none (some (.UnaryOp .USub one p1)) p2) pos) (tRev X.K te) := by
  intro pins s σ H Q I h
  refine Subscript_ (thn (he pins s σ H _ I h) fun v s1 ⟨x, H1, I1, r1, l, xs, ex, hl, q⟩ => ?_)
  subst ex
  cases r1
  refine wpAny_Slice ?_
  rw [evalPart_none]
  refine wpAny_pure (wpAny_pure ?_)
  refine thn (po_some (pe_un un_neg h1) pins s1 σ H1 (fun o H2 => o = some (-1) ∧ H2 = H1) I1 ⟨1, rfl, -1, rfl, rfl, rfl⟩) fun vs s3 ⟨o, H3, I3, ps, e3, e4⟩ => ?_
  subst e3 e4
  obtain ⟨its, r, ht, hz⟩ := I3.list hl
  have hlen := r.length
  have I4 : Inv X pins σ H3 { s3 with heap := s3.heap.push { cls := .type "slice", data := .fields #[.none, .none, vs] } } := I3.kept (t' := s3.toks) fun b ob q => Heap.get?_push_of_some _ q
  obtain ⟨its, r, ht, hz⟩ := I4.list hl
  have hlen := r.length
  refine tail_any (ops := [.ref l, .ref s3.heap.objs.size]) ht.isList.typeIs slot_list_getitem.lookup (wpAny_getItem_list_slice ht.isList (Heap.IsSliceOf.new ..) .none .none ps (by simp) ?_ (by rw [List.size_toArray] <;> omega)) (by with_unfolding_all rfl)
  rw [pick_rev]
  exact ⟨.ref _, _, I4.laid (t' := s3.toks) (o := .lst xs.reverse) (fun b ob q => Heap.get?_push_of_some _ q) (Nat.le_refl _) ⟨by rw [List.length_reverse]; exact hz, _, 0, r.rev, Heap.get?_push_size _ rfl⟩, rfl, q _ (I4.hok.fresh (Nat.le_refl _))⟩
end
end L2

namespace L2
open PySem PySem.Spec PyProof.Rows
/-! ### a statement and the rest, the rest hidden while the statement is read -/
section
variable {X : Cx} {st : Stmt} {rest : List Stmt} {t u : TS}
end
end L2

namespace L2
open PySem PySem.Spec PyProof.Rows
/-! ### a dict is walked, by its entries -/
section
variable {prog : Program} {w : World} {A : Around} {E : Value → Shared → Prop} {s : Shared} {d it : Addr} {od : Obj} {es : Array DictEntry} {ep i : Nat}
theorem es_iter {Q : Value → Shared → Prop} (nd : (d == sysModules) = false) (hg : s.heap.get? d = some od) (hx : od.ExactDict) (ht : od.data = .dict es ep)
    (q : Q (.ref s.heap.objs.size) { s with heap := s.heap.push { cls := .type "dict_keyiterator", data := .fields #[.ref d, .int 0 0, .int es.size 0, .int ep 0] } }) : wpAny (model prog w) A (pyIter (.ref d)) Q E s := by
  have ty : s.TypeIs (.ref d) "dict" := ⟨od, hg, hx.1⟩
  refine wpAny_pyIter_slot ty F.slot_dict_iter (wpAny_call_entry F.slot_dict_iter ty F.entry_dict_iter ?_ (F.args_dict_iter_1 _))
  unfold Builtin.«dict.__iter__»
  unfold Builtin.Dict.dictSlotNone
  refine wpAny_bind (wpAny_bind (wpAny_notOrdered_dict ty (wpAny_pure ?_)))
  refine (show wpAny _ _ (Builtin.Dict.showsAll d >>= _) _ _ s from ?_)
  unfold Builtin.Dict.showsAll
  rw [if_neg (by rw [nd]; exact Bool.false_ne_true)]
  refine wpAny_bind (wpAny_pure (wpAny_bind (wpAny_dictEntries hg ht (wpAny_bind (wpAny_dictEpoch hg ht ?_)))))
  refine wpAny_bind (wpAny_newObj_type (wpAny_pure ⟨_, rfl, "dict_keyiterator", _, ⟨_, Heap.get?_push_size _ rfl, rfl⟩, F.slot_dict_keyiterator_next.lookup, ?_⟩))
  simpa [rawInt] using q
theorem es_item {Q : Option Value → Shared → Prop} (st : s.heap.IsKeyIter it d i es.size ep) (hg : s.heap.get? d = some od) (ht : od.data = .dict es ep) (lt : i < es.size)
    (q : ∀ h', h'.IsKeyIter it d (i + 1) es.size ep → Heap.SameBut it s.heap h' → Q (some es[i].key) { s with heap := h' }) : wpAny (model prog w) A (pyNext (.ref it)) Q E s := by
  obtain ⟨o, ho, hc, hf⟩ := id st
  have ty := st.typeIs
  unfold pyNext
  refine wpAny_bind (wpAny_attempt (wpAny_callSpecial?_slot (name := Str.ofString "__next__") ty F.slot_dict_keyiterator_next (wpAny_call_entry F.slot_dict_keyiterator_next ty F.entry_dict_keyiterator_next ?_ (F.args_dict_keyiterator_next_1 _))))
  refine wpAny_bind (wpAny_pure (wpAny_bind (wpAny_bind ?_)))
  first | refine wpAny_bind (wpAny_typeNameOfWhole_keyiter ty (wpAny_pure (wpAny_bind (wpAny_fieldsOf ho hf ?_)))) | refine wpAny_bind (wpAny_typeNameOf_keyiter ty (wpAny_pure (wpAny_bind (wpAny_fieldsOf ho hf ?_))))
  simp only [show Builtin.Dict_items.ownsTuple "dict_keyiterator" = false by decide, Bool.false_eq_true, if_false]
  show wpAny _ _ (if (Value.ref d == Value.none) = true then _ else _) _ _ s
  rw [if_neg (show ¬ ((Value.ref d == Value.none) = true) from Bool.false_ne_true)]
  refine wpAny_bind (wpAny_pure (wpAny_bind (wpAny_dictEntries hg ht ?_)))
  rw [if_neg (by simp)]
  refine wpAny_bind (wpAny_pure (wpAny_bind (wpAny_dictEpoch hg ht ?_)))
  rw [if_neg (by simp)]
  refine wpAny_pure ?_
  simp only [show ¬ ((i : Int) < 0) from by omega, if_false, Int.toNat_natCast, Array.getElem?_eq_getElem lt]
  refine wpAny_bind ?_
  first | refine wpAny_bind (wpAny_typeNameOfWhole_keyiter ty (wpAny_pure (wpAny_bind (wpAny_isOneOf_keyiter ty ?_)))) | refine wpAny_bind (wpAny_typeNameOf_keyiter ty (wpAny_pure (wpAny_bind (wpAny_isOneOf_keyiter ty ?_))))
  show wpAny _ _ (setField (.ref it) 1 (rawInt ((i : Int) + 1)) >>= _) _ _ s
  refine wpAny_bind (wpAny_setField ho hf (by simp) ?_)
  have st' : (s.heap.update it (Obj.mapFields (·.setIfInBounds 1 (rawInt ((i : Int) + 1))))).IsKeyIter it d (i + 1) es.size ep :=
    ⟨_, Heap.get?_update_self _ ho (Obj.isFreed_of_fields (Obj.data_mapFields hf _)), (Obj.cls_mapFields ..).trans hc, by rw [Obj.data_mapFields hf]; simp [rawInt]⟩
  refine wpAny_bind (wpAny_holding (wpAny_bind (wpAny_isOneOf_keyiter (s := { s with heap := s.heap.update it (Obj.mapFields (·.setIfInBounds 1 (rawInt ((i : Int) + 1)))) }) st'.typeIs ?_)))
  show wpAny _ _ (pure es[i].key) _ _ _
  exact wpAny_pure (wpAny_pure ⟨_, rfl, wpAny_pure (q _ st' (Heap.SameBut.update ..))⟩)
theorem es_end {Q : Option Value → Shared → Prop} (hh : A.handled = none) (st : s.heap.IsKeyIter it d i es.size ep) (hg : s.heap.get? d = some od) (ht : od.data = .dict es ep) (ge : es.size ≤ i)
    (q : ∀ h', Heap.ExtBut it s.heap h' → Q none { s with heap := h' }) : wpAny (model prog w) A (pyNext (.ref it)) Q E s := by
  obtain ⟨o, ho, hc, hf⟩ := id st
  have ty := st.typeIs
  unfold pyNext
  refine wpAny_bind (wpAny_attempt (wpAny_callSpecial?_slot (name := Str.ofString "__next__") ty F.slot_dict_keyiterator_next (wpAny_call_entry F.slot_dict_keyiterator_next ty F.entry_dict_keyiterator_next ?_ (F.args_dict_keyiterator_next_1 _))))
  refine wpAny_bind (wpAny_pure (wpAny_bind (wpAny_bind ?_)))
  first | refine wpAny_bind (wpAny_typeNameOfWhole_keyiter ty (wpAny_pure (wpAny_bind (wpAny_fieldsOf ho hf ?_)))) | refine wpAny_bind (wpAny_typeNameOf_keyiter ty (wpAny_pure (wpAny_bind (wpAny_fieldsOf ho hf ?_))))
  simp only [show Builtin.Dict_items.ownsTuple "dict_keyiterator" = false by decide, Bool.false_eq_true, if_false]
  show wpAny _ _ (if (Value.ref d == Value.none) = true then _ else _) _ _ s
  rw [if_neg (show ¬ ((Value.ref d == Value.none) = true) from Bool.false_ne_true)]
  refine wpAny_bind (wpAny_pure (wpAny_bind (wpAny_dictEntries hg ht ?_)))
  rw [if_neg (by simp)]
  refine wpAny_bind (wpAny_pure (wpAny_bind (wpAny_dictEpoch hg ht ?_)))
  rw [if_neg (by simp)]
  refine wpAny_pure ?_
  simp only [show ¬ ((i : Int) < 0) from by omega, if_false, Int.toNat_natCast, Array.getElem?_eq_none ge]
  refine wpAny_bind ?_
  first | refine wpAny_bind (wpAny_typeNameOfWhole_keyiter ty (wpAny_pure ?_)) | refine wpAny_bind (wpAny_typeNameOf_keyiter ty (wpAny_pure ?_))
  show wpAny _ _ (setField (.ref it) 0 .none >>= _) _ _ s
  refine wpAny_bind (wpAny_setField ho hf (by simp) ?_)
  show wpAny _ _ (newExc (.type "StopIteration") [] >>= _) _ _ _
  refine wpAny_bind ?_
  simp only [newExc, newTuple]
  refine wpAny_bind (wpAny_newObj_type ?_ (by size_fits))
  refine wpAny_bind (m := firstArgMember _ _) (wpAny_of_eq (a := Value.none) (by first | rfl | (simp only [firstArgMember]; rfl)) (wpAny_newObj_type ?_ (by size_fits)))
  simp only [raiseNew]
  refine wpAny_bind (wpAny_handled ?_)
  rw [show A.in1.handled = none from hh]
  refine wpAny_bind (wpAny_pure (wpAny_throw ?_))
  refine wpAny_bind (wpAny_isInstance (b := true) (T := "StopIteration") ⟨_, Heap.get?_push_size _ rfl, rfl⟩ isSubtype_stop ?_)
  exact wpAny_pure (q _ (((Heap.SameBut.update ..).extBut.push _).push _))
end
/-! ### for k in d, keys tuples; the dict is held fast while it is walked -/
/-- the keys of the dict at a, in their order -/
def Itd (a : Addr) (kvs : List (List Key × V)) (o : Obj) : It :=
  ⟨fun i H => H a = some (.frz o (.dT kvs)) ∧ i < kvs.length, fun i H x H' => H' = H ∧ ∃ b k v, x = .ref b ∧ kvs[i]? = some (k, v) ∧ H b = some (.tup (k.map kV)), fun i H => H a = some (.frz o (.dT kvs)) ∧ kvs.length ≤ i⟩
theorem KT.at {H : Hp} {kvs : List (List Key × V)} {xs : List (List Key × Addr × Value)} (r : KT H kvs xs) {i : Nat} {p : List Key × V} (e : kvs[i]? = some p) : ∃ q, xs[i]? = some q ∧ p.1 = q.1 ∧ H q.2.1 = some (.tup (p.1.map kV)) ∧ RelV p.2 q.2.2 := by
  induction r generalizing i with
  | nil => simp at e
  | cons h _ ih =>
    cases i with
    | zero => simp at e; subst e; exact ⟨_, rfl, h⟩
    | succ i => simpa using ih (by simpa using e)
theorem turn_dt {P : Program} {w : World} {K : PySem.W.Frag} {tg : Expr} (a it : Addr) (kvs : List (List Key × V)) (o : Obj) :
    Turn P w K tg (Itd a kvs o) [it] it (fun i h => ∃ es ep, o.data = .dict es ep ∧ h.IsKeyIter it a i es.size ep) where
  mem := by simp
  obj := fun i h st b hb => by
    have e : b = it := by simpa using hb
    subst e
    obtain ⟨_, _, _, o, e, c, d⟩ := st
    exact ⟨o, e, fun v z => by rw [d] at z; cases z⟩
  keep := fun i h h' ⟨es, ep, e, st⟩ k => ⟨es, ep, e, st.at fun o e => k it (by simp) o e⟩
  item := by
    intro X hP hw hK hc i pins s σ H E I hf st hg
    subst hP hw hK
    obtain ⟨ha, hi⟩ := hg
    obtain ⟨es, ep, ed, st⟩ := st
    obtain ⟨ho, _, _, xs, r, o', es', ep', h1, h2, h3, h4, _⟩ := (show ObjOk X.prog X.w H s.heap a (.frz o (.dT kvs)) from I.hok a _ ha)
    rw [ho] at h1; cases h1
    rw [ed] at h3; cases h3
    obtain ⟨f0, f1, f2, f3, f4, f5⟩ := hf it (by simp)
    have hk : kvs[i]? = some kvs[i] := by simp [hi]
    obtain ⟨q, q1, q2, q3, q4⟩ := KT.at r hk
    have he : es.toList[i]? = some (entryOfKey (tupleKind (mixKind X.prog X.w)) q) := by rw [h4, List.getElem?_map, q1]; rfl
    obtain ⟨hl, he'⟩ := List.getElem?_eq_some_iff.mp he
    have lt : i < es.size := by simpa using hl
    refine es_item st ho ed lt fun h' st' sb => ?_
    have ek : es[i].key = .ref q.2.1 := by
      have : es[i] = entryOfKey (tupleKind (mixKind X.prog X.w)) q := by rw [← he']; simp
      rw [this]; rfl
    rw [ek]
    have I1 : Inv X pins σ H { s with heap := h' } := I.turned (t' := s.toks) (fun b o hb e => (sb.2 b hb).trans e) f0 f1 f3 f4 f5
    obtain ⟨oi, e, c, d⟩ := id st'
    exact ⟨_, rfl, go_of (s := { s with heap := h' }) e c d (by decide) ⟨.ref q.2.1, H, I1, rfl, ⟨rfl, q.2.1, kvs[i].1, kvs[i].2, rfl, hk, q3⟩, ⟨es, ep, ed, st'⟩, fun b hb => (hf b hb).1⟩⟩
  done := by
    intro X hP hw hK hc i pins s σ H E I hf st hg
    subst hP hw hK
    obtain ⟨ha, hi⟩ := hg
    obtain ⟨es, ep, ed, st⟩ := st
    obtain ⟨ho, _, _, xs, r, o', es', ep', h1, h2, h3, h4, _⟩ := (show ObjOk X.prog X.w H s.heap a (.frz o (.dT kvs)) from I.hok a _ ha)
    rw [ho] at h1; cases h1
    rw [ed] at h3; cases h3
    obtain ⟨f0, f1, f2, f3, f4, f5⟩ := hf it (by simp)
    have hl : es.size = kvs.length := by
      have e1 : es.toList.length = xs.length := by rw [h4]; simp
      have e2 := Paired.length r
      simp at e1; omega
    exact es_end (I.ok.hd hc) st ho ed (by omega) fun h' eb => ⟨rfl, I.turned (t' := s.toks) (fun b o hb e => eb b o hb e) f0 f1 f3 f4 f5⟩
  self := fun _ _ _ _ _ ⟨_, _, _, st⟩ h => wpAny_pyIter_keyiter st h
section
variable {X : Cx} {tg : Expr}
/-- the dict is held fast -/
theorem Inv.fastT {pins : List (Addr × Obj)} {σ : St} {H : Hp} {s : Shared} {a : Addr} {kvs : List (List Key × V)} (I : Inv X pins σ H s) (e : H a = some (.dT kvs)) : ∃ o, s.heap.get? a = some o ∧ Inv X pins σ (upd H a (.frz o (.dT kvs))) s := by
  obtain ⟨z, y, xs, r, o, es, ep, h1, h2, h3⟩ := (show ObjOk X.prog X.w H s.heap a (.dT kvs) from I.hok a _ e)
  refine ⟨o, h1, ?_⟩
  refine I.write (x := a) (e := a) (h' := s.heap) (t' := s.toks) (by rw [e]; trivial) (.inl rfl) (fun b u _ q => q) ⟨o, h1⟩ ⟨h1, z, y, xs, Paired.mapP r fun p q t => ⟨t.1, ?_, t.2.2⟩, o, es, ep, h1, h2, h3⟩
  rw [upd_ne (ne_of t.2.1 e (by intro h; cases h))]
  exact t.2.1
def iDt (td : TE) : TI := fun σ H R => td σ H fun x H1 => ∃ a kvs, x = .ref a ∧ ((H1 a = some (.dT kvs) ∧ ∀ o, R (Itd a kvs o) (upd H1 a (.frz o (.dT kvs)))) ∨ ∃ o, H1 a = some (.frz o (.dT kvs)) ∧ R (Itd a kvs o) H1)
theorem pi_dt {l : Expr} {td : TE} (hl : PE X l td) : PI X tg l (iDt td) := by
  intro pins s σ H R I h
  refine thn (hl pins s σ H _ I h) fun v s1 ⟨x, H1, I1, r1, q1⟩ => ?_
  obtain ⟨a, kvs, e, q⟩ := q1
  subst e
  cases r1
  have core : ∀ (o : Obj) (H2 : Hp), Inv X pins σ H2 s1 → H2 a = some (.frz o (.dT kvs)) → R (Itd a kvs o) H2 → wpAny (model X.prog X.w) X.A (pyIter (.ref a)) (PIE X pins σ tg R) X.xe s1 := by
    intro o H2 I2 ha q
    obtain ⟨ho, _, y, xs, r, o', es, ep, h1, h2, h3, h4, _⟩ := (show ObjOk X.prog X.w H2 s1.heap a (.frz o (.dT kvs)) from I2.hok a _ ha)
    rw [ho] at h1; cases h1
    refine es_iter y ho h2 h3 ?_
    refine ⟨s1.heap.objs.size, [s1.heap.objs.size], _, _, H2, rfl, I2.kept (t' := s1.toks) fun b o e => Heap.get?_push_of_some _ e, turn_dt a _ kvs o, ⟨es, ep, h3, _, Heap.get?_push_size _ rfl, rfl, rfl⟩, fun b hb => ?_, q⟩
    have e : b = s1.heap.objs.size := by simpa using hb
    subst e
    exact I2.fpOk (Nat.le_refl _) (I2.hok.fresh (Nat.le_refl _))
  rcases q with ⟨ha, q⟩ | ⟨o, ha, q⟩
  · obtain ⟨o, ho, I2⟩ := I1.fastT ha
    exact core o _ I2 upd_same (q o)
  · exact core o H1 I1 ha q
/-- the loop over a dict's keys, by a word at each turn -/
theorem for_dt {a : Addr} {kvs : List (List Key × V)} {o : Obj} {g : TG} {tb : TS} {D : Ends} {σ : St} {H : Hp} (Pv : Nat → St → Hp → Prop) (h0 : Pv 0 σ H) (hl : ∀ i σ H, i ≤ kvs.length → Pv i σ H → H a = some (.frz o (.dT kvs)))
    (hs : ∀ i k v b σ H, kvs[i]? = some (k, v) → H b = some (.tup (k.map kV)) → Pv i σ H → g (.ref b) σ H fun σ2 H2 => tb { D with nx := Pv (i + 1), ct := Pv (i + 1), bk := D.nx } σ2 H2) (hd : ∀ σ H, Pv kvs.length σ H → D.nx σ H) :
    ∃ W : Nat → Nat → St → Hp → Prop, (∃ m, W 0 m σ H) ∧ ∀ i m σ H, W i m σ H →
      ((Itd a kvs o).stop i H ∧ D.nx σ H) ∨ ((Itd a kvs o).go i H ∧ ∃ N : St → Hp → Prop, (∀ σ' H', N σ' H' → ∃ m', m' < m ∧ W (i + 1) m' σ' H') ∧ ∀ x H', (Itd a kvs o).yld i H x H' → g x σ H' fun σ2 H2 => tb { D with nx := N, ct := N, bk := D.nx } σ2 H2) := by
  refine ⟨fun i m σ H => m = kvs.length - i ∧ i ≤ kvs.length ∧ Pv i σ H, ⟨kvs.length, by simp, Nat.zero_le _, h0⟩, ?_⟩
  rintro i m σ H ⟨rfl, hi, p⟩
  have q := hl i σ H hi p
  by_cases lt : i < kvs.length
  · refine .inr ⟨⟨q, lt⟩, Pv (i + 1), fun σ' H' p' => ⟨kvs.length - (i + 1), by omega, rfl, lt, p'⟩, fun x H' y => ?_⟩
    obtain ⟨rfl, b, k, v, rfl, e, hb⟩ := y
    exact hs i k v b σ _ e hb p
  · have e : i = kvs.length := by omega
    subst e
    exact .inl ⟨⟨q, Nat.le_refl _⟩, hd σ H p⟩
end
/-! ### {k: v}, the key a tuple -/
section
variable {X : Cx} {k v : Expr} {tk tv : TE} {pos : Pos}
def tDisp1T (tk tv : TE) : TE := fun σ H Q => ∀ p, H p = none → tk σ (upd H p (.dT [])) fun x H1 => tv σ H1 fun y H2 => ∃ ks b, x = .ref b ∧ H2 b = some (.tup (ks.map kV)) ∧ H2 p = some (.dT []) ∧ Q (.ref p) (upd H2 p (.dT [(ks, y)]))
theorem pe_disp1T (hu : X.A.units < cLine) (hk : PE X k tk) (hv : PE X v tv) : PE X (.Dict [some k] [v] pos) (tDisp1T tk tv) := by
  intro pins s σ H Q I q
  have hn := I.hok.fresh (Nat.le_refl s.heap.objs.size)
  have I1 := I.laid (a := s.heap.objs.size) (o := .dT []) (t' := s.toks) (fun _ _ q => Heap.get?_push_of_some _ q) (Nat.le_refl _) (dt_empty s.heap I.big)
  refine wpAny_Dict_any rfl rfl (by simp) (by simp) (pairTrees_cons_walk (thn (hk pins _ σ _ _ I1 (q _ hn)) fun u s1 ⟨x, H1, I1, rx, q1⟩ => thn (hv pins s1 σ H1 _ I1 q1) fun u2 s2 ⟨y, H2, I2, ry, q2⟩ => pairTrees_nil_walk ?_))
  obtain ⟨ks, b, rfl, eb, ep, q3⟩ := q2
  cases (show u = Value.ref b from rx)
  obtain ⟨z, hd, xs, rel, dd⟩ := dt_of I2.hok ep
  cases rel
  unfold storeAll
  rw [List.forIn_cons]
  refine wpAny_bind (wpAny_bind (wpAny_dictSet_heap (v := u2) (by exact hu) (key_of I2.hok eb) dd fun h' dd' hs => wpAny_pure ?_))
  dsimp only
  rw [List.forIn_nil]
  refine wpAny_pure ⟨.ref s.heap.objs.size, _, ?_, rfl, q3⟩
  obtain ⟨o, es, e2, hq, h2, h3, h4, _, h5⟩ := dd'
  refine d_write I2 (by rw [ep]; exact True.intro) hs ⟨o, hq⟩ ⟨by rw [sizeLine_eq]; simp, hd, _, .cons ⟨rfl, ?_, ry⟩ .nil, o, es, e2, hq, h2, h3, h4, h5⟩
  rw [upd_ne (ne_of eb ep (fun z => nomatch z))]
  exact eb
end
/-! ### list(d), the keys tuples -/
section
variable {P : Program} {w : World} {A : Around} {I d : Addr} {od : Obj} {es : Array DictEntry} {ep : Nat}
theorem walks_es (hh : A.handled = none) (hne : d ≠ I) (ht : od.data = .dict es ep) :
    Walks P w A I [I, d] [I] es.size (fun i v => ∃ h : i < es.size, v = es[i].key) (fun i h => h.IsKeyIter I d i es.size ep ∧ h.get? d = some od) where
  sub := fun b hb => by simp at hb; simp [hb]
  frame := fun _ _ _ st hk => ⟨st.1.at fun o e => hk I (by simp) o e, hk d (by simp) od st.2⟩
  item := fun i s Q E hi st hQ => es_item st.1 st.2 ht hi fun h' st' sb => hQ _ h' s.toks ⟨hi, rfl⟩ ⟨st', (sb.2 d hne).trans st.2⟩ fun b o hb e => (sb.2 b fun z => hb (by simp [z])).trans e
  done := fun s Q E st hQ => es_end hh st.1 st.2 ht (Nat.le_refl _) fun h' he => hQ h' s.toks fun b o hb e => he b o (fun z => hb (by simp [z])) e
  self := fun _ _ _ _ st hQ => wpAny_pyIter_keyiter st.1 hQ
theorem src_es (nd : (d == sysModules) = false) (hx : od.ExactDict) (ht : od.data = .dict es ep) : PySem.W.KdlSrc P w "dict" d d es.size (fun i v => ∃ h : i < es.size, v = es[i].key) (fun h => h.get? d = some od) where
  type := fun s hm => ⟨od, hm, hx.1⟩
  there := fun h hm => ⟨Heap.lt_size hm, Heap.lt_size hm⟩
  keep := fun h h' hm hk => hk d (.inl rfl) od hm
  notList := by decide
  notTuple := by decide
  hint := fun _ _ s _ hm hq => PySem.W.kdl_hint_dict (⟨od, hm, hx.1⟩ : s.TypeIs (.ref d) "dict") hq
  iter := fun A s hh hm => ⟨_, _, (fun E Q q => es_iter nd hm hx ht q), walks_es hh (Nat.ne_of_lt (Heap.lt_size hm)) ht, ⟨⟨_, Heap.get?_push_size _ rfl, rfl, rfl⟩, Heap.get?_push_of_some _ hm⟩⟩
end
section
variable {X : Cx}
/-- the tuples at ys are the keys of kvs -/
def KeysT (H : Hp) : List V → List (List Key × V) → Prop := Paired fun y kv => ∃ b, y = .ref b ∧ H b = some (.tup (kv.1.map kV))
theorem keys_of {H : Hp} : ∀ {kvs : List (List Key × V)} {xs : List (List Key × Addr × Value)}, KT H kvs xs → KeysT H (xs.map fun q => V.ref q.2.1) kvs
  | _, _, .nil => .nil
  | _, _, .cons h t => .cons ⟨_, rfl, h.2.1⟩ (keys_of t)
theorem vals_refs : ∀ (xs : List (List Key × Addr × Value)), Vals (xs.map fun q => V.ref q.2.1) (xs.map fun q => Value.ref q.2.1)
  | [] => .nil
  | _ :: xs => .cons rfl (vals_refs xs)
theorem call_list_dt (hc : X.calm = true) : CallR X (.type "list") (fun xs H Q => ∃ a kvs, xs = [.ref a] ∧ Rd H a (.dT kvs) ∧ ∀ l ys, H l = none → KeysT H ys kvs → Q (.ref l) (upd H l (.lst ys))) := by
  intro pins s σ H xs us Q I r h
  obtain ⟨a, kvs, rfl, ha, q⟩ := h
  obtain ⟨u, rfl, rx⟩ := vals1 r
  cases rx
  obtain ⟨z, y, ts, rel, o, es, ep, h1, h2, h3, h4, h5⟩ := (show ObjOk X.prog X.w H s.heap a (.dT kvs) from rd_of I.hok ha)
  have e1 : es.size = ts.length := by have := congrArg List.length h4; simpa using this
  have e2 := Paired.length rel
  refine PySem.W.kdl_call (src_es (P := X.prog) (w := X.w) y h2 h3) (I.ok.hd hc) h1 (by omega) fun h' tk acc c hk hS hacc => ?_
  refine ⟨.ref s.heap.objs.size, _, I.laid (t' := tk) (o := .lst (ts.map fun q => V.ref q.2.1)) hk (Nat.le_refl _) ⟨by simp; omega, acc.toList, c, ?_, by simpa using hS⟩, rfl, q _ _ I.fresh (keys_of rel)⟩
  have e3 : acc.toList = ts.map fun q => Value.ref q.2.1 := by
    refine List.ext_getElem? fun i => ?_
    by_cases hi : i < ts.length
    · have ha : i < acc.size := by have := hacc.1; omega
      obtain ⟨hj, e⟩ := hacc.2 i acc[i] (by simp [ha])
      have e4 : es.toList[i]? = some (entryOfKey (tupleKind (mixKind X.prog X.w)) ts[i]) := by rw [h4]; simp [hi]
      have e5 : es[i] = entryOfKey (tupleKind (mixKind X.prog X.w)) ts[i] := by
        obtain ⟨_, e6⟩ := List.getElem?_eq_some_iff.mp e4
        simpa using e6
      simp only [Array.getElem?_toList, List.getElem?_map]
      rw [Array.getElem?_eq_getElem ha, e, e5, List.getElem?_eq_getElem hi]
      rfl
    · have ha : acc.size ≤ i := by have := hacc.1; omega
      rw [List.getElem?_eq_none (by simpa using ha), List.getElem?_eq_none (by simpa using hi)]
  rw [e3]
  exact vals_refs ts
end
/-! ### a new object at a place where none stood -/
section
variable {P : Program} {w : World} {H : Hp} {h h' : Heap} {a : Addr} {o : HO}
theorem ObjOk.there : ∀ {o : HO}, ObjOk P w H h a o → ∃ ob, h.get? a = some ob
  | .lst _, ⟨_, _, _, _, e⟩ => ⟨_, e⟩
  | .tup _, ⟨_, _, _, _, e, _⟩ => ⟨_, e⟩
  | .dK _, ⟨_, _, _, _, _, _, _, e, _⟩ => ⟨_, e⟩
  | .dT _, ⟨_, _, _, _, _, _, _, e, _⟩ => ⟨_, e⟩
  | .set _ _, ⟨_, _, _, _, e, _⟩ => ⟨_, e⟩
  | .ins _ _ _, ⟨_, _, _, e, _⟩ => ⟨_, e⟩
  | .own _, ⟨_, e⟩ => ⟨_, e⟩
  | .xd _, ⟨_, ⟨_, _, _, e, _⟩, _⟩ => ⟨_, e⟩
  | .rng _ _, ⟨_, _, _, e⟩ => ⟨_, e⟩
  | .frz _ _, ⟨e, _⟩ => ⟨_, e⟩
  | .tbl _, e => ⟨_, e⟩
  | .met _ _, e => ⟨_, e⟩
  | .ext _, ⟨_, e, _⟩ => e
theorem HOk.noneAt (x : HOk P w H h) (na : h.get? a = none) : H a = none := by
  cases q : H a with
  | none => rfl
  | some u => obtain ⟨_, e⟩ := (x a u q).there; rw [na] at e; cases e
theorem HOk.laidAt (x : HOk P w H h) (k : ∀ b u, h.get? b = some u → h'.get? b = some u) (na : h.get? a = none) (new : ObjOk P w (upd H a o) h' a o) : HOk P w (upd H a o) h' := fun b u e => by
  have hn := x.noneAt na
  by_cases hb : b = a
  · subst hb
    rw [upd_same] at e
    cases e
    exact new
  · rw [upd_ne hb] at e
    exact (x b u e).stay (fun c v _ q => k c v q) (fun c q => by rw [upd_ne (ne_of_none q hn), q]) fun c xs q => by rw [upd_ne (ne_of_none q hn), q]
theorem Un.laidAt {fs ex : List Addr} (k : ∀ b u, h.get? b = some u → h'.get? b = some u) (na : h.get? a = none) (hn : H a = none) : Un fs ex H (upd H a o) h h' :=
  ⟨fun b u q _ _ _ => k b u q, fun b u q _ _ _ => ⟨u.slots, k b u q⟩, fun b u q n _ => by rw [upd_ne (fun z => by subst z; rw [na] at q; cases q)]; exact n, fun b u q _ => ⟨u, k b u q⟩,
    fun b xs q => by rw [upd_ne (ne_of_none q hn), q], fun b u xs q => by rw [upd_ne (ne_of_none q hn), q], fun b ps q => ⟨#[], by rw [upd_ne (ne_of_none q hn), q]; simp⟩⟩
end
theorem Inv.laidAt {X : Cx} {pins : List (Addr × Obj)} {σ : St} {H : Hp} {s : Shared} {h' : Heap} {a : Addr} {o : HO} {t' : Nat} (I : Inv X pins σ H s) (k : ∀ b u, s.heap.get? b = some u → h'.get? b = some u) (na : s.heap.get? a = none)
    (new : ObjOk X.prog X.w (upd H a o) h' a o) : Inv X pins σ (upd H a o) { s with heap := h', toks := t' } := I.un (Un.laidAt k na (I.hok.noneAt na)) (I.hok.laidAt k na new)
theorem none_at {h h' : Heap} (k : ∀ b u, h.get? b = some u → h'.get? b = some u) : h.get? h'.objs.size = none := by
  cases q : h.get? h'.objs.size with
  | none => rfl
  | some u => exact absurd (Heap.lt_size (k _ _ q)) (Nat.lt_irrefl _)
/-! ### sorted(d), the keys ints -/
section
variable {X : Cx}
theorem ints_vals : ∀ {vs : List Value} {ns : List Int}, IntsAre vs ns → Vals (ns.map V.int) vs
  | _, _, .nil => .nil
  | _, _, .cons n t r => .cons ⟨t, rfl⟩ (ints_vals r)
theorem ints_items : ∀ (l : List Value) (ks : List Int), l.length = ks.length → (∀ j v, l[j]? = some v → ∃ t, v = Value.int (ks.getD j 0) t) → IntsAre l ks
  | [], [], _, _ => .nil
  | [], _ :: _, h, _ => by simp at h
  | _ :: _, [], h, _ => by simp at h
  | v :: l, k :: ks, h, f => by
    obtain ⟨t, e⟩ := f 0 v rfl
    subst e
    exact .cons k t (ints_items l ks (by simpa using h) fun j v e => f (j + 1) v (by simpa using e))
def rSortK (H : Hp) (a : Addr) (ks : List Int) : Prop := ∃ kvs, Rd H a (.dK kvs) ∧ kvs.map (·.1) = ks.map Sum.inl
theorem call_sorted_dk (hc : X.calm = true) : CallR X (.builtin "sorted") (fun xs H Q => ∃ (a : Addr) (ks : List Int), xs = [.ref a] ∧ rSortK H a ks ∧ ks.length < 64 ∧
    ∀ (l : Addr) (ys : List Int), H l = none → ys.Perm ks → ys.Pairwise (· ≤ ·) → Q (.ref l) (upd H l (.lst (ys.map V.int)))) := by
  intro pins s σ H xs us Q I r h
  obtain ⟨a, ks, rfl, ⟨kvs, ha, ek⟩, h64, q⟩ := h
  obtain ⟨u, rfl, rx⟩ := vals1 r
  cases rx
  obtain ⟨z, y, vs, rel, dd⟩ := dk_rd I.hok ha
  obtain ⟨ep, da⟩ := dd.dictAt
  have lk : kvs.length = ks.length := by have := congrArg List.length ek; simpa using this
  have lv : kvs.length = vs.length := Paired.length rel
  have ev : ∀ {l : List (Key × V)} {m : List (Key × Value)}, KV l m → l.map (·.1) = m.map (·.1) := by
    intro l m r
    unfold KV at r
    induction r with
    | nil => rfl
    | cons h _ ih => rw [List.map_cons, List.map_cons, ih, h.1]
  refine PySem.Calls.call_function_entry kind_sorted plain_sorted entry_sorted (args_sorted1 _) ?_
  unfold Builtin.«sorted»
  refine wpAny_bind (m := checkCount "sorted" 1 1 _) (wpAny_pure (wpAny_bind (PySem.W.kdu_collect (A := X.A.in1) (PySem.W.kdl_dict y) (I.ok.hd hc) da (by omega) fun h' tk acc hk hacc => ?_)))
  have hl : acc.toList.length = ks.length := by rw [Array.length_toList]; have := hacc.1; omega
  have hI : IntsAre acc.toList ks := by
    refine ints_items _ _ hl fun j v e => ?_
    obtain ⟨k, x, e1, e2⟩ := hacc.2 j v (by rw [← Array.getElem?_toList]; exact e)
    have e3 : (vs.map (·.1))[j]? = some k := by rw [List.getElem?_map, e1]; rfl
    rw [← ev rel, ek, List.getElem?_map] at e3
    obtain ⟨i, e4, e5⟩ := Option.map_eq_some_iff.mp e3
    subst e5
    obtain ⟨t, e6⟩ := Value.isInt_shape (k := i) (v := v) e2
    exact ⟨t, by rw [e6, List.getD_eq_getElem?_getD, e4]; rfl⟩
  refine wpAny_bind (wpAny_newList ?_ (by rw [hl]; show _ ≤ 2 ^ 24; omega))
  have ho : (h'.push { cls := .type "list", data := .seq acc.toList.toArray }).get? h'.objs.size = some (seqObj "list" acc.toList.toArray 0) := Heap.get?_push_size _ rfl
  refine wpAny_bind (wpAny_holding (wpAny_call_entry slot_list_sort ⟨_, ho, rfl⟩ entry_list_sort (list_sort_tree (n := 0) (vs := acc.toList) ho hI (by omega) fun out ns' hI' hp hP => ⟨.none, rfl, ?_⟩) (args_list_sort _)))
  refine wpAny_pure ⟨_, rfl, .ref h'.objs.size, _, ?_, rfl, q _ ns' (I.hok.noneAt (none_at hk)) hp hP⟩
  obtain ⟨e, he⟩ := sortedHeap_at (out := out) ho
  refine I.laidAt (t' := tk) (fun b u e => ?_) (none_at hk) ⟨?_, out.toList, e, ints_vals hI', by rw [Array.toArray_toList]; exact he⟩
  · have e1 := hk b u e
    have lt := Heap.lt_size e1
    rw [sortedHeap_old (Nat.ne_of_lt lt) (by rw [size_push']; exact Nat.lt_succ_of_lt lt)]
    exact Heap.get?_push_of_some _ e1
  · have := hp.length_eq
    rw [List.length_map]
    show _ ≤ 2 ^ 24
    omega
end
end L2

namespace L2
open PySem PySem.Spec PyProof.Rows
/-! ### list(it), it an iterator -/
section
variable {prog : Program} {w : World} {A : Around} {E : Value → Shared → Prop} {s : Shared} {T : String} {it S : Addr} {fp : List Addr} {n : Nat} {P : Nat → Value → Prop} {St : Nat → Heap → Prop}
theorem it_extend {R : Result → Shared → Prop} {res : Value} {c : Nat} (W : Walks prog w A.in1 it fp [it] n P St) (ty : s.TypeIs (.ref it) T) (nl : (Value.type T == Value.type "list") = false) (nt : (Value.type T == Value.type "tuple") = false)
    (hint : ∀ (E : Value → Shared → Prop) (Q : Bool → Shared → Prop), Q false s → wpAny (model prog w) A.in1 (Builtin.List.listLengthHint (.ref it)) Q E s) (st : St 0 s.heap) (hf : S ∉ fp) (hn : n ≤ sizeLine)
    (hS : s.heap.get? S = some { cls := .type "list", data := .seq #[] c })
    (q : ∀ h' tk acc c', (∀ b o, b ≠ S → b ≠ it → s.heap.get? b = some o → h'.get? b = some o) → h'.get? S = some { cls := .type "list", dict := none, data := .seq acc c', slots := #[] } → ItemsOf P acc n → R (.ok (.ret res)) { s with heap := h', toks := tk }) :
    wpAny (model prog w) A.in1 (Builtin.List.listExtendWith (.ref S) (.ref it) res)
      (fun fin s' => match fin with | .done f => R (.ok f) s' | .again c' => c'.quiet = true ∧ codeAny (model prog w) A c' R s') (fun e s' => R (.error e) s') s := by
  have hSit : S ≠ it := fun z => hf (z ▸ W.sub it (by simp))
  have key : ∀ (h : Heap) (c₁ tk : Nat), St 0 h → (∀ b o, b ≠ S → s.heap.get? b = some o → h.get? b = some o) → h.get? S = some { cls := .type "list", data := .seq #[] c₁ } →
      codeAny (model prog w) A (.builtin "list.extend.loop" ⟨[.ref S, .ref it, res], []⟩) R { s with heap := h, toks := tk } := by
    intro h c₁ tk st' hk hS'
    refine codeAny_extend_loopS W.toS hn S hf res n 0 _ #[] c₁ rfl (Nat.zero_le _) st' hS' (ItemsOf.nil _) fun s' acc c' hm hA hacc => ?_
    rw [Moved.eq_with hm]
    exact q s'.heap s'.toks acc c' (fun b o h1 h2 e => hm.heap b o (by simp [h1, h2]) (hk b o h1 e)) hA hacc
  unfold Builtin.List.listExtendWith
  refine wpAny_bind (wpAny_typeOf (T := T) ty ?_)
  simp only [show Builtin.List.listSameRef (.ref S) (.ref it) = false by simp [Builtin.List.listSameRef, hSit], nl, nt, Bool.or_false, Bool.false_eq_true, if_false]
  refine wpAny_bind (W.self 0 s _ _ st (wpAny_bind (wpAny_holding (hint _ _ ?_))))
  refine wpAny_ite_split (fun _ => wpAny_bind (wpAny_rule (wpAny_bind ?_))) (fun _ => wpAny_pure ⟨plainId_quiet PySem.F.plain_extend_loop _, key _ c _ st (fun b o _ e => e) hS⟩)
  refine (show wpAny _ _ (updateSeq S (·.push .none) >>= fun _ => updateSeq S (·.pop)) _ _ _ from wpAny_bind (wpAny_updateSeq hS rfl ?_))
  have h2 := Heap.get?_update_self (Obj.mapSeq (·.push Value.none)) hS rfl
  refine wpAny_updateSeq (hz := by seq_fits) h2 rfl (wpAny_pure ⟨plainId_quiet PySem.F.plain_extend_loop _, key _ _ _ (W.frame 0 _ _ st fun b hb o e => ?_) (fun b o hb e => ?_) (Heap.get?_update_self (Obj.mapSeq (·.pop)) h2 rfl)⟩)
  · have hbS : S ≠ b := fun z => hf (z ▸ hb)
    exact (Heap.get?_update_other _ _ hbS).trans ((Heap.get?_update_other _ _ hbS).trans e)
  · exact (Heap.get?_update_other _ _ (Ne.symm hb)).trans ((Heap.get?_update_other _ _ (Ne.symm hb)).trans e)
theorem it_list {Q : Value → Shared → Prop} (W : Walks prog w A.in1.in1 it fp [it] n P St) (ty : s.TypeIs (.ref it) T) (nl : (Value.type T == Value.type "list") = false) (nt : (Value.type T == Value.type "tuple") = false)
    (hint : ∀ (s' : Shared) (E : Value → Shared → Prop) (Q : Bool → Shared → Prop), s'.TypeIs (.ref it) T → Q false s' → wpAny (model prog w) A.in1.in1 (Builtin.List.listLengthHint (.ref it)) Q E s') (st : St 0 s.heap) (hf : ∀ b ∈ fp, b < s.heap.objs.size) (hn : n ≤ sizeLine)
    (q : ∀ h' tk acc c', (∀ b o, b ≠ it → s.heap.get? b = some o → h'.get? b = some o) → h'.get? s.heap.objs.size = some { cls := .type "list", dict := none, data := .seq acc c', slots := #[] } → ItemsOf P acc n → Q (.ref s.heap.objs.size) { s with heap := h', toks := tk }) :
    wpAny (model prog w) A (call (.type "list") [.ref it]) Q E s := by
  refine callType_codes (Q₁ := fun obj s₁ => obj = .ref s.heap.objs.size ∧ s₁ = { s with heap := s.heap.push { cls := .type "list", data := .seq #[] } }) PySem.F.called_list (PySem.F.typeCall_list_1 _) PySem.F.entry_list_init (code_list_new _ ⟨rfl, rfl⟩) fun obj s₁ h₁ => ?_
  obtain ⟨rfl, rfl⟩ := h₁
  have hS : (s.heap.push { cls := .type "list", data := .seq #[] }).get? s.heap.objs.size = some { cls := .type "list", data := .seq #[] } := Heap.get?_push_size _ rfl
  have nf : s.heap.objs.size ∉ fp := fun z => absurd (hf _ z) (Nat.lt_irrefl _)
  refine ⟨⟨_, hS, rfl⟩, PySem.F.args_list_init_2 _ _, ?_⟩
  have hSit : s.heap.objs.size ≠ it := fun z => nf (z ▸ W.sub it (by simp))
  refine (show wpAny _ _ (do let old ← Builtin.List.listItems (.ref s.heap.objs.size); Builtin.List.listUpdate (.ref s.heap.objs.size) (fun _ => #[]); letGo old.toList.reverse; Builtin.List.listExtendWith (.ref s.heap.objs.size) (.ref it) .none) _ _ _ from wpAny_bind ?_)
  unfold Builtin.List.listItems
  refine wpAny_bind (wpAny_seqItems hS rfl (wpAny_pure ?_))
  refine (show wpAny _ _ (updateSeq s.heap.objs.size (fun _ => #[]) >>= fun _ => letGo (#[] : Array Value).toList.reverse >>= fun _ => Builtin.List.listExtendWith (.ref s.heap.objs.size) (.ref it) .none) _ _ _ from wpAny_bind (wpAny_updateSeq hS rfl ?_))
  have h2 := Heap.get?_update_self (Obj.mapSeq (fun _ => (#[] : Array Value))) hS rfl
  have k2 : ∀ b o, s.heap.get? b = some o → ((s.heap.push { cls := .type "list", data := .seq #[] }).update s.heap.objs.size (Obj.mapSeq (fun _ => (#[] : Array Value)))).get? b = some o :=
    fun b o e => (Heap.get?_update_other _ _ (Nat.ne_of_gt (Heap.lt_size e))).trans (Heap.get?_push_of_some _ e)
  have ty2 : ({ s with heap := (s.heap.push { cls := .type "list", data := .seq #[] }).update s.heap.objs.size (Obj.mapSeq (fun _ => (#[] : Array Value))) } : Shared).TypeIs (.ref it) T := by
    obtain ⟨o, e, c⟩ := (show ∃ o, s.heap.get? it = some o ∧ o.cls = .type T from ty)
    exact ⟨o, k2 it o e, c⟩
  refine wpAny_bind (wpAny_letGo (it_extend (A := A.in1) W ty2 nl nt (fun E Q => hint _ E Q ty2) (W.frame 0 _ _ st fun b _ o e => k2 b o e) nf hn h2 fun h' tk acc c' hk hA hacc => ?_))
  exact ⟨rfl, q h' tk acc c' (fun b o hb e => hk b o (Nat.ne_of_lt (Heap.lt_size e)) hb (k2 b o e)) hA hacc⟩
theorem hint_rev {Q : Bool → Shared → Prop} (ty : s.TypeIs (.ref it) "list_reverseiterator") (h : Q false s) : wpAny (model prog w) A (Builtin.List.listLengthHint (.ref it)) Q E s := by
  unfold Builtin.List.listLengthHint
  have l1 : typeLookup (.type "list_reverseiterator") "__len__" = pure none := by rw [typeLookup_type, builtinLookup_eq_fast]; kernel_rfl
  have l2 : typeLookup (.type "list_reverseiterator") "__length_hint__" = pure (some (.builtin "list_reverseiterator.__length_hint__")) := by rw [typeLookup_type, builtinLookup_eq_fast]; kernel_rfl
  refine wpAny_bind (wpAny_specialOf ty l1 ?_)
  wp_delta
  refine wpAny_ite_split (fun z => absurd z (by decide)) (fun _ => ?_)
  refine wpAny_ite_split (fun z => absurd z (by decide)) (fun _ => ?_)
  refine wpAny_bind (wpAny_specialOf ty l2 ?_)
  generalize hid : ("list_reverseiterator.__length_hint__" : String) = id0
  wp_delta
  rw [show splitId id0 = some ("list_reverseiterator", "__length_hint__") from by subst hid; decide +kernel]
  subst hid
  refine wpAny_bind (wpAny_isInstance (b := true) (T := "list_reverseiterator") ty (by rw [isSubtype_type]; kernel_rfl) ?_)
  refine wpAny_ite_split (fun z => absurd z (by decide)) (fun _ => ?_)
  refine wpAny_ite_split (fun _ => ?_) (fun z => absurd (by decide +kernel) z)
  refine wpAny_ite_split (fun z => absurd z (by decide)) (fun _ => wpAny_pure h)
end
/-! ### list(reversed(xs)) -/
theorem vals_reverse : ∀ {xs : List V} {us : List Value}, Vals xs us → Vals xs.reverse us.reverse
  | _, _, .nil => .nil
  | _, _, .cons r t => by rw [List.reverse_cons, List.reverse_cons]; exact (vals_reverse t).append (.cons r .nil)
section
variable {X : Cx}
def tRevL (K : PySem.W.Frag) (te : TE) : TE := fun σ H Q => te σ H fun x H1 => ∃ a xs, x = .ref a ∧ SqL K H1 a xs ∧ ∀ l, H1 l = none → Q (.ref l) (upd H1 l (.lst xs.reverse))
theorem pe_revL {e : Expr} {te : TE} {p p' pos pos' : Pos} (hc : X.calm = true) (hg : Gl X "list") (hm : X.mg "list" = none) (hg' : Gl X "reversed") (hm' : X.mg "reversed" = none) (he : PE X e te)
    (hs : starEach [e] X.env = (false, eval e X.env) :: starEach [] X.env := by rfl)
    (hs2 : starEach [Expr.Call (.Name "reversed" p') [e] [] pos'] X.env = (false, eval (.Call (.Name "reversed" p') [e] [] pos') X.env) :: starEach [] X.env := by rfl)
    (hv : bootBuiltins "list" = some (.type "list") := by decide +kernel) (hv' : bootBuiltins "reversed" = some (.type "reversed") := by decide +kernel) :
    PE X (.Call (.Name "list" p) [.Call (.Name "reversed" p') [e] [] pos'] [] pos) (tRevL X.K te) := by
  intro pins s σ H Q I h
  refine wpAny_Call_Name_kw (ld_blt I hg hm hv (PyProof.Rows.callWith_type1 ?_ hs2))
  rw [hs2]
  refine Calls.spliced_cons (wpAny_Call_Name_kw (ld_blt I hg' hm' hv' (PyProof.Rows.callWith_type1 ?_ hs)))
  rw [hs]
  refine Calls.spliced_cons (thn (he pins s σ H _ I h) fun u s1 ⟨x, H1, I1, r1, a, xs, e1, hl, q⟩ => Calls.spliced_nil ?_)
  subst e1
  cases r1
  obtain ⟨its, rv, pl, hz⟩ := I1.list hl
  refine call_reversed_list pl.isList (Calls.spliced_nil ?_)
  have lt : a < s1.heap.objs.size := let ⟨_, e, _⟩ := pl.isList; Heap.lt_size e
  have hlen := rv.length
  have W := Walks.listRev (prog := X.prog) (w := X.w) (A := X.A.in1.in1) (I1.ok.hd hc) s1.heap.objs.size a (Nat.ne_of_lt lt) its.toArray
  refine it_list (s := { s1 with heap := s1.heap.push (revObj a ((its.toArray.size : Int) - 1)) }) W ⟨_, Heap.get?_push_size _ rfl, rfl⟩ (by decide) (by decide) (fun s' E Q t q => hint_rev t q) ⟨Nat.zero_le _, ⟨_, Heap.get?_push_size _ rfl, rfl, by simp [revObj]⟩, pl.isList.at fun o e => Heap.get?_push_of_some _ e⟩
    (fun b hb => ?_) (by rw [List.size_toArray]; omega) fun h' tk acc c' hk hA hacc => ?_
  · rw [size_push']
    rcases List.mem_cons.mp hb with z | z
    · rw [z]; exact Nat.lt_succ_self _
    · rw [List.mem_singleton.mp z]; exact Nat.lt_succ_of_lt lt
  · have k2 : ∀ b o, s1.heap.get? b = some o → h'.get? b = some o := fun b o e => hk b o (Nat.ne_of_lt (Heap.lt_size e)) (Heap.get?_push_of_some _ e)
    have sz : (s1.heap.push (revObj a ((its.toArray.size : Int) - 1))).objs.size = s1.heap.objs.size + 1 := size_push' ..
    have na : s1.heap.get? (s1.heap.push (revObj a ((its.toArray.size : Int) - 1))).objs.size = none := by
      cases z : s1.heap.get? (s1.heap.push (revObj a ((its.toArray.size : Int) - 1))).objs.size with
      | none => rfl
      | some o => exact absurd (Heap.lt_size z) (by rw [sz]; exact Nat.not_lt.mpr (Nat.le_succ _))
    have ea : acc.toList = its.reverse := by
      refine List.ext_getElem? fun i => ?_
      have h1 : acc.size = its.length := by have := hacc.1; simpa using this
      by_cases hi : i < its.length
      · have e : its[its.length - 1 - i]? = some (acc[i]'(by omega)) := by simpa using hacc.2 i (acc[i]'(by omega)) (by simp [h1, hi])
        rw [List.getElem?_reverse hi, e, Array.getElem?_toList, Array.getElem?_eq_getElem (by omega)]
      · rw [List.getElem?_eq_none (by simp; omega), List.getElem?_eq_none (by simp; omega)]
    refine ⟨.ref _, _, I1.laidAt (t' := tk) (o := .lst xs.reverse) k2 na ⟨by simp; omega, acc.toList, c', ?_, by rw [Array.toArray_toList]; exact hA⟩, rfl, q _ (I1.hok.noneAt na)⟩
    rw [ea]
    exact vals_reverse rv
end
end L2

namespace L2
open PySem PySem.Spec PyProof.Rows
section
variable {X : Cx}
/-! ### max of a list of ints -/
inductive I_maxL (K : PySem.W.Frag) (xs : List V) (H : Hp) (Q : VK) : Prop where
  | mk (a : Addr) (ns : List Int) (h0 : xs = [.ref a]) (h1 : SqL K H a (ns.map V.int)) (h2 : 0 < ns.length) (h3 : ∀ M, M ∈ ns → (∀ x ∈ ns, x ≤ M) → Q (.int M) H) : I_maxL K xs H Q
theorem call_maxL (hc : X.calm = true) : CallR X (.builtin "max") (I_maxL X.K) := by
  intro pins s σ H xs us Q I r h
  obtain ⟨a, ns, rfl, hl, hne, q⟩ := h
  obtain ⟨u, rfl, rx⟩ := vals1 r
  cases rx
  obtain ⟨its, rv, pl, _⟩ := I.list hl
  have hi := intsAre_of rv
  obtain ⟨ps, e⟩ := hi.allInts.items
  have en : ns = ps.toList.map (·.1) := by rw [← hi.numsOf, ← nums_intItems, ← e]
  have sz : 0 < ps.size := by rw [en] at hne; simpa using hne
  have pl' := pl.isList
  rw [e] at pl'
  refine max_intList (I.ok.hd hc) pl' sz fun v h' tk hv hk => ?_
  obtain ⟨t, rfl⟩ := intItems_at hv
  obtain ⟨h1, h2⟩ := argBest_gt (numAt ps) (ps.size - 1)
  refine ⟨.int _, H, I.kept (t' := tk) fun b o e => hk b o e, ⟨t, rfl⟩, q _ ?_ fun x hx => ?_⟩
  · rw [en, numAt_eq]
    exact getD_mem (by rw [List.length_map, Array.length_toList]; exact Nat.lt_of_le_of_lt h1 (Nat.sub_lt sz Nat.one_pos))
  · rw [en] at hx
    obtain ⟨j, hj, rfl⟩ := mem_getD hx
    rw [← numAt_eq]
    exact h2 j (by simp at hj; omega)
/-! ### list(range(i, j, k)) -/
inductive I_rngL (Q : VK) (vs : List V) (H : Hp) : Prop where
  | mk (i j k : Int) (n : Nat) (h0 : vs = [.int i, .int j, .int k]) (h1 : k ≠ 0) (h2 : Builtin.Range.small i j k = true) (h3 : Builtin.Range.rangeSize i j k = n) (h4 : n ≤ 2 ^ 24) (h5 : Builtin.divisionGoesByPylong (j - i) k = false)
    (h6 : ∀ l, H l = none → Q (.ref l) (upd H l (.lst ((List.range n).map fun (m : Nat) => V.int (i + m * k))))) : I_rngL Q vs H
def tRngL (ta : TA) : TE := fun σ H Q => ta σ H fun vs H1 => I_rngL Q vs H1
theorem vals3 {x y z : V} {us : List Value} (r : Vals [x, y, z] us) : ∃ u v w, us = [u, v, w] ∧ RelV x u ∧ RelV y v ∧ RelV z w := by
  cases r with
  | cons a r => cases r with
    | cons b r => cases r with
      | cons c r => cases r; exact ⟨_, _, _, rfl, a, b, c⟩
theorem pe_rngL {a b c : Expr} {ta : TA} {p p' pos pos' : Pos} (hc : X.calm = true) (hg : Gl X "list") (hm : X.mg "list" = none) (hg' : Gl X "range") (hm' : X.mg "range" = none) (ha : PA X [a, b, c] ta)
    (hs : starEach [a, b, c] X.env = (false, eval a X.env) :: starEach [b, c] X.env := by rfl) (hpl : (backTo pos' (starEach [b, c] X.env)).any (·.1) = false := by rfl)
    (hs2 : starEach [Expr.Call (.Name "range" p') [a, b, c] [] pos'] X.env = (false, eval (.Call (.Name "range" p') [a, b, c] [] pos') X.env) :: starEach [] X.env := by rfl)
    (hv : bootBuiltins "list" = some (.type "list") := by decide +kernel) (hv' : bootBuiltins "range" = some (.type "range") := by decide +kernel) :
    PE X (.Call (.Name "list" p) [.Call (.Name "range" p') [a, b, c] [] pos'] [] pos) (tRngL ta) := by
  intro pins s σ H Q I h
  refine wpAny_Call_Name_kw (ld_blt I hg hm hv (PyProof.Rows.callWith_type1 ?_ hs2))
  rw [hs2]
  refine Calls.spliced_cons (wpAny_Call_Name_kw (ld_blt I hg' hm' hv' (PyProof.Rows.callWith_type1 (thn (ha pos' pins s σ H _ I h) fun us s1 ⟨vs, H1, I1, r1, q1⟩ => ?_) hs hpl)))
  obtain ⟨i, j, k, n, rfl, h1, h2, h3, h4, h5, q⟩ := q1
  obtain ⟨_, _, _, rfl, ⟨t, rfl⟩, ⟨u, rfl⟩, ⟨v, rfl⟩⟩ := vals3 r1
  refine call_range_3 h1 (Calls.spliced_nil ?_) (.inl h5)
  refine call_list_range (s := { s1 with heap := s1.heap.push { cls := .type "range", data := .fields #[.int i t, .int j u, .int k v] }, toks := s1.toks }) (I1.ok.hd hc) (Heap.get?_push_size _ rfl) h2 h3 h4 fun h' tk acc c' hk hS hacc => ?_
  have k2 : ∀ b o, s1.heap.get? b = some o → h'.get? b = some o := fun b o e => hk b o (Heap.get?_push_of_some _ e)
  have na : s1.heap.get? (s1.heap.push { cls := .type "range", data := .fields #[.int i t, .int j u, .int k v] }).objs.size = none := by
    cases z : s1.heap.get? (s1.heap.push { cls := .type "range", data := .fields #[.int i t, .int j u, .int k v] }).objs.size with
    | none => rfl
    | some o => exact absurd (Heap.lt_size z) (by rw [size_push']; exact Nat.not_lt.mpr (Nat.le_succ _))
  refine ⟨.ref _, _, I1.laidAt (t' := tk) (o := .lst ((List.range n).map fun (m : Nat) => V.int (i + m * k))) k2 na ⟨?_, acc.toList, c', ?_, by rw [Array.toArray_toList]; exact hS⟩, rfl, q _ (I1.hok.noneAt na)⟩
  · rw [List.length_map, List.length_range]
    exact h4
  · refine vals_items (F := fun m => i + m * k) acc.toList _ (by simpa using hacc.1) fun m x e => hacc.2 m x (by rw [← Array.getElem?_toList]; exact e)
end
end L2

namespace L2
open PySem PySem.Spec PyProof.Rows
/-! ### list(d.items()), by the entries -/
/-- the iterator's record -/
def itF (d : Addr) (i n ep : Nat) (x y u v : Value) : Obj := { cls := .type "dict_itemiterator", dict := none, data := .fields #[x, y, .ref d, .int i 0, .int n 0, .int ep 0, u, v], slots := #[] }
/-- it stands ahead of the i-th entry; its own tuple is not made yet, or is held by another -/
def ISt (h : Heap) (it d S : Addr) (i n ep : Nat) : Prop := ∃ x y u v, h.get? it = some (itF d i n ep x y u v) ∧ (x = .none ∨ ∃ (a : Nat) (f : Bool) (oa : Obj), x = rawInt a ∧ y = .bool f ∧ h.get? a = some oa ∧ a ≠ it ∧ a ≠ S)
section
variable {prog : Program} {w : World} {A : Around} {E : Value → Shared → Prop} {s : Shared} {d it S : Addr} {od : Obj} {es : Array DictEntry} {ep i : Nat}
theorem ISt.keep {h h' : Heap} {n : Nat} (x : ISt h it d S i n ep) (hne : it ≠ S) (k : ∀ b o, b ≠ S → h.get? b = some o → h'.get? b = some o) : ISt h' it d S i n ep := by
  obtain ⟨x, y, u, v, e, c⟩ := x
  refine ⟨x, y, u, v, k _ _ hne e, ?_⟩
  rcases c with c | ⟨a, f, oa, c1, c2, c3, c4, c5⟩
  · exact .inl c
  · exact .inr ⟨a, f, oa, c1, c2, k _ _ c5 c3, c4, c5⟩
theorem item_next {Q : Option Value → Shared → Prop} (st : ISt s.heap it d S i es.size ep) (hS : S < s.heap.objs.size) (hg : s.heap.get? d = some od) (ht : od.data = .dict es ep) (lt : i < es.size)
    (q : ∀ h', ISt h' it d S (i + 1) es.size ep → h'.get? s.heap.objs.size = some { cls := .type "tuple", data := .seq #[es[i].key, es[i].val] } → h'.objs.size = s.heap.objs.size + 1 → (∀ b o, b ≠ it → s.heap.get? b = some o → h'.get? b = some o) →
      Q (some (.ref s.heap.objs.size)) { s with heap := h' }) : wpAny (model prog w) A (pyNext (.ref it)) Q E s := by
  obtain ⟨x, y, u, v, he, hx⟩ := st
  have ty : s.TypeIs (.ref it) "dict_itemiterator" := ⟨_, he, rfl⟩
  have li : it < s.heap.objs.size := Heap.lt_size he
  unfold pyNext
  refine wpAny_bind (wpAny_attempt (wpAny_callSpecial?_slot (name := Str.ofString "__next__") ty F.slot_dict_itemiterator_next (wpAny_call_entry F.slot_dict_itemiterator_next ty F.entry_dict_itemiterator_next ?_ (F.args_dict_itemiterator_next_1 _))))
  refine wpAny_bind (wpAny_pure (wpAny_bind (wpAny_bind ?_)))
  first | refine wpAny_bind (wpAny_typeNameOfWhole_itemiter ty (wpAny_pure (wpAny_bind (wpAny_fieldsOf he rfl ?_)))) | refine wpAny_bind (wpAny_typeNameOf_itemiter ty (wpAny_pure (wpAny_bind (wpAny_fieldsOf he rfl ?_))))
  simp only [show Builtin.Dict_items.ownsTuple "dict_itemiterator" = true by decide, if_true]
  refine (show wpAny _ _ (if (Value.ref d == Value.none) = true then _ else _) _ _ _ from ?_)
  rw [if_neg (show ¬ ((Value.ref d == Value.none) = true) from Bool.false_ne_true)]
  refine wpAny_bind (wpAny_pure (wpAny_bind (wpAny_dictEntries hg ht ?_)))
  rw [if_neg (by simp)]
  refine wpAny_bind (wpAny_pure (wpAny_bind (wpAny_dictEpoch hg ht ?_)))
  rw [if_neg (by simp)]
  refine wpAny_pure ?_
  simp only [show ¬ ((i : Int) < 0) from by omega, if_false, Int.toNat_natCast, Array.getElem?_eq_getElem lt]
  refine wpAny_bind ?_
  first | refine wpAny_bind (wpAny_typeNameOfWhole_itemiter ty (wpAny_pure (wpAny_bind (wpAny_isOneOf_itemiter ty ?_)))) | refine wpAny_bind (wpAny_typeNameOf_itemiter ty (wpAny_pure (wpAny_bind (wpAny_isOneOf_itemiter ty ?_))))
  refine (show wpAny _ _ (setField (.ref it) 3 (rawInt ((i : Int) + 1)) >>= _) _ _ _ from wpAny_bind (wpAny_setField_rec he (by simp) fun h1 he1 hs1 => ?_))
  have he1' : h1.get? it = some (itF d (i + 1) es.size ep x y u v) := by
    have e : ((i + 1 : Nat) : Int) = (i : Int) + 1 := by omega
    rw [he1]; unfold itF; rw [e]; simp [rawInt]
  have ty1 : ({ s with heap := h1 } : Shared).TypeIs (.ref it) "dict_itemiterator" := ⟨_, he1', rfl⟩
  refine wpAny_bind (wpAny_holding (wpAny_bind (wpAny_isOneOf_itemiter ty1 (wpAny_bind (wpAny_isOneOf_itemiter ty1 ?_)))))
  refine (show wpAny _ _ (Builtin.Dict_items.pairFromOwner (.ref it) 6 es[i].key es[i].val) _ _ _ from ?_)
  unfold Builtin.Dict_items.pairFromOwner
  refine wpAny_bind (wpAny_newTuple ?_)
  have sz1 : h1.objs.size = s.heap.objs.size := hs1.1
  obtain ⟨h2, e2⟩ : ∃ h2, h2 = h1.push { cls := .type "tuple", data := .seq #[es[i].key, es[i].val] } := ⟨_, rfl⟩
  have he2 : h2.get? it = some (itF d (i + 1) es.size ep x y u v) := by rw [e2]; exact Heap.get?_push_of_some _ he1'
  have t2 : h2.get? s.heap.objs.size = some { cls := .type "tuple", data := .seq #[es[i].key, es[i].val] } := by rw [e2, ← sz1]; exact Heap.get?_push_size _ rfl
  have sz2 : h2.objs.size = s.heap.objs.size + 1 := by rw [e2, Heap.size_push, sz1]
  have k2 : ∀ b o, b ≠ it → s.heap.get? b = some o → h2.get? b = some o := fun b o hb e => by rw [e2]; exact Heap.get?_push_of_some _ ((hs1.2 b hb).trans e)
  dsimp only
  rw [← e2, sz1]
  clear e2 he1 he1' hs1 ty1 sz1
  have fin : ∀ h3 : Heap, ISt h3 it d S (i + 1) es.size ep → Heap.SameBut it h2 h3 → Q (some (.ref s.heap.objs.size)) { s with heap := h3 } := fun h3 st3 sb => q h3 st3 ((sb.2 _ (Nat.ne_of_gt li)).trans t2) (by rw [sb.1, sz2]) fun b o hb e => (sb.2 b hb).trans (k2 b o hb e)
  refine wpAny_bind ?_
  unfold Builtin.Dict_items.ownedTupleIsFree
  rcases hx with rfl | ⟨a, f, oa, rfl, rfl, ha, hai, haS⟩
  · refine wpAny_bind (wpAny_field he2 rfl (x := .none) rfl (wpAny_pure ?_))
    simp only [if_true]
    refine wpAny_bind (wpAny_field he2 rfl (x := u) rfl (wpAny_bind (wpAny_field he2 rfl (x := v) rfl ?_)))
    refine wpAny_bind (wpAny_setField_rec he2 (by simp) fun h3 he3 hs3 => ?_)
    refine wpAny_bind (wpAny_setField_rec he3 (by simp) fun h4 he4 hs4 => ?_)
    refine wpAny_bind (wpAny_setField_rec he4 (by simp) fun h5 he5 hs5 => ?_)
    refine wpAny_bind (wpAny_setField_rec he5 (by simp) fun h6 he6 hs6 => ?_)
    have sb : Heap.SameBut it h2 h6 := ⟨by rw [hs6.1, hs5.1, hs4.1, hs3.1], fun b hb => by rw [hs6.2 b hb, hs5.2 b hb, hs4.2 b hb, hs3.2 b hb]⟩
    refine wpAny_bind (wpAny_letGo (wpAny_pure (wpAny_pure ⟨_, rfl, wpAny_pure (fin h6 ⟨rawInt s.heap.objs.size, .bool false, es[i].key, es[i].val, he6, .inr ⟨s.heap.objs.size, false, _, rfl, rfl, (sb.2 _ (Nat.ne_of_gt li)).trans t2, Nat.ne_of_gt li, Nat.ne_of_gt hS⟩⟩ sb)⟩)))
  · refine wpAny_bind (wpAny_field he2 rfl (x := rawInt a) rfl ?_)
    refine (show wpAny _ _ (loadIfAlive ((a : Int).toNat) >>= _) _ _ _ from ?_)
    rw [Int.toNat_natCast]
    refine wpAny_bind (PySem.W.kdx_alive (k2 a oa hai ha) ?_)
    simp only [Option.isNone_some, Bool.false_eq_true, if_false]
    refine wpAny_bind (wpAny_field he2 rfl (x := .bool f) rfl ?_)
    cases f with
    | true =>
      rw [if_neg (show ¬ ((Value.bool true != Value.bool true) = true) from Bool.false_ne_true)]
      refine wpAny_pure ?_
      simp only [Bool.false_eq_true, if_false]
      exact wpAny_pure (wpAny_pure ⟨_, rfl, wpAny_pure (fin h2 ⟨_, _, _, _, he2, .inr ⟨a, true, oa, rfl, rfl, k2 a oa hai ha, hai, haS⟩⟩ (Heap.SameBut.refl _ _))⟩)
    | false =>
      rw [if_pos (show (Value.bool false != Value.bool true) = true from rfl)]
      refine wpAny_bind (wpAny_setField_rec he2 (by simp) fun h3 he3 hs3 => wpAny_pure ?_)
      simp only [Bool.false_eq_true, if_false]
      exact wpAny_pure (wpAny_pure ⟨_, rfl, wpAny_pure (fin h3 ⟨_, _, _, _, he3, .inr ⟨a, true, oa, rfl, rfl, (hs3.2 a hai).trans (k2 a oa hai ha), hai, haS⟩⟩ hs3)⟩)
theorem item_end {Q : Option Value → Shared → Prop} (hh : A.handled = none) (st : ISt s.heap it d S i es.size ep) (hg : s.heap.get? d = some od) (ht : od.data = .dict es ep) (ge : es.size ≤ i)
    (q : ∀ h', Heap.ExtBut it s.heap h' → Q none { s with heap := h' }) : wpAny (model prog w) A (pyNext (.ref it)) Q E s := by
  obtain ⟨x, y, u, v, he, hx⟩ := st
  have ty : s.TypeIs (.ref it) "dict_itemiterator" := ⟨_, he, rfl⟩
  unfold pyNext
  refine wpAny_bind (wpAny_attempt (wpAny_callSpecial?_slot (name := Str.ofString "__next__") ty F.slot_dict_itemiterator_next (wpAny_call_entry F.slot_dict_itemiterator_next ty F.entry_dict_itemiterator_next ?_ (F.args_dict_itemiterator_next_1 _))))
  refine wpAny_bind (wpAny_pure (wpAny_bind (wpAny_bind ?_)))
  first | refine wpAny_bind (wpAny_typeNameOfWhole_itemiter ty (wpAny_pure (wpAny_bind (wpAny_fieldsOf he rfl ?_)))) | refine wpAny_bind (wpAny_typeNameOf_itemiter ty (wpAny_pure (wpAny_bind (wpAny_fieldsOf he rfl ?_))))
  simp only [show Builtin.Dict_items.ownsTuple "dict_itemiterator" = true by decide, if_true]
  refine (show wpAny _ _ (if (Value.ref d == Value.none) = true then _ else _) _ _ _ from ?_)
  rw [if_neg (show ¬ ((Value.ref d == Value.none) = true) from Bool.false_ne_true)]
  refine wpAny_bind (wpAny_pure (wpAny_bind (wpAny_dictEntries hg ht ?_)))
  rw [if_neg (by simp)]
  refine wpAny_bind (wpAny_pure (wpAny_bind (wpAny_dictEpoch hg ht ?_)))
  rw [if_neg (by simp)]
  refine wpAny_pure ?_
  simp only [show ¬ ((i : Int) < 0) from by omega, if_false, Int.toNat_natCast, Array.getElem?_eq_none ge]
  refine wpAny_bind ?_
  first | refine wpAny_bind (wpAny_typeNameOfWhole_itemiter ty (wpAny_pure ?_)) | refine wpAny_bind (wpAny_typeNameOf_itemiter ty (wpAny_pure ?_))
  refine (show wpAny _ _ (setField (.ref it) 2 .none >>= _) _ _ _ from wpAny_bind (wpAny_setField_rec he (by simp) fun h1 he1 hs1 => ?_))
  refine (show wpAny _ _ (newExc (.type "StopIteration") [] >>= _) _ _ _ from wpAny_bind ?_)
  simp only [newExc, newTuple]
  refine wpAny_bind (wpAny_newObj_type ?_ (by size_fits))
  refine wpAny_bind (m := firstArgMember _ _) (wpAny_of_eq (a := Value.none) (by first | rfl | (simp only [firstArgMember]; rfl)) (wpAny_newObj_type ?_ (by size_fits)))
  simp only [raiseNew]
  refine wpAny_bind (wpAny_handled ?_)
  rw [show A.in1.handled = none from hh]
  refine wpAny_bind (wpAny_pure (wpAny_throw ?_))
  refine wpAny_bind (wpAny_isInstance (b := true) (T := "StopIteration") ⟨_, Heap.get?_push_size _ rfl, rfl⟩ isSubtype_stop ?_)
  exact wpAny_pure (q _ ((hs1.extBut.push _).push _))
theorem items_loop {R : Result → Shared → Prop} {res : Value} {I N0 : Addr} {h1 : Heap} (hh : A.handled = none) (hSI : I ≠ S) (hSN : S < N0) (hIN : I < N0) (dS : d ≠ S) (dI : d ≠ I) (ht : od.data = .dict es ep) (hn : es.size ≤ sizeLine)
    (q : ∀ h' tk acc c, (∀ b o, b ≠ S → b ≠ I → h1.get? b = some o → h'.get? b = some o) → h'.get? S = some { cls := .type "list", dict := none, data := .seq acc c, slots := #[] } → acc.toList = (List.range es.size).map (fun j => Value.ref (N0 + j)) →
      (∀ j (hj : j < es.size), h'.get? (N0 + j) = some { cls := .type "tuple", data := .seq #[es[j].key, es[j].val] }) → R (.ok (.ret res)) { s with heap := h', toks := tk }) :
    ∀ (k i : Nat) (h : Heap) (tk c : Nat) (acc : Array Value), es.size - i = k → i ≤ es.size → ISt h I d S i es.size ep → h.get? d = some od → h.objs.size = N0 + i → (∀ j (hj : j < es.size), j < i → h.get? (N0 + j) = some { cls := .type "tuple", data := .seq #[es[j].key, es[j].val] }) →
      (∀ b o, b ≠ S → b ≠ I → h1.get? b = some o → h.get? b = some o) → h.get? S = some { cls := .type "list", dict := none, data := .seq acc c, slots := #[] } → acc.toList = (List.range i).map (fun j => Value.ref (N0 + j)) →
      codeAny (model prog w) A (.builtin "list.extend.loop" ⟨[.ref S, .ref I, res], []⟩) R { s with heap := h, toks := tk } := by
  intro k
  induction k with
  | zero =>
    intro i h tk c acc hk hi st hg sz tup keep hS hacc
    have e : i = es.size := by omega
    subst e
    refine codeAny_builtin PySem.F.entry_extend_loop ?_
    rw [Around.under_plainId PySem.F.plain_extend_loop _]
    refine (show wpAny _ A.in1 (pyNext (.ref I) >>= _) _ _ _ from wpAny_bind (item_end (s := { s with heap := h, toks := tk }) (A := A.in1) hh st hg ht (Nat.le_refl _) fun h' he => ?_))
    exact wpAny_pure (q h' tk acc c (fun b o h1 h2 e => he b o h2 (keep b o h1 h2 e)) (he S _ hSI.symm hS) hacc fun j hj => he _ _ (Nat.ne_of_gt (Nat.lt_of_lt_of_le hIN (Nat.le_add_right _ _))) (tup j hj hj))
  | succ k ih =>
    intro i h tk c acc hk hi st hg sz tup keep hS hacc
    have lt : i < es.size := by omega
    have la : acc.size = i := by rw [← Array.length_toList, hacc]; simp
    refine codeAny_builtin PySem.F.entry_extend_loop ?_
    rw [Around.under_plainId PySem.F.plain_extend_loop _]
    refine (show wpAny _ A.in1 (pyNext (.ref I) >>= _) _ _ _ from wpAny_bind (item_next (s := { s with heap := h, toks := tk }) (S := S) st (Heap.lt_size hS) hg ht lt fun h' st' t' sz' k' => ?_))
    dsimp only at t' sz' k' ⊢
    have hS' := k' S _ hSI.symm hS
    have up : ∀ b o, b ≠ S → h'.get? b = some o → (h'.update S (Obj.mapSeq (·.push (Value.ref h.objs.size)))).get? b = some o := fun b o hb e => (Heap.get?_update_other _ _ (Ne.symm hb)).trans e
    refine (show wpAny _ A.in1 (updateSeq S (·.push (Value.ref h.objs.size)) >>= _) _ _ _ from wpAny_bind ?_)
    refine wpAny_updateSeq hS' rfl (wpAny_pure ⟨plainId_quiet PySem.F.plain_extend_loop _, ih (i + 1) _ tk _ (acc.push (Value.ref h.objs.size)) (by omega) lt (st'.keep hSI up) (up d od dS (k' d od dI hg)) (by rw [Heap.size_update, sz', sz]; omega) (fun j hj hji => ?_)
      (fun b o h1 h2 e => up b o h1 (k' b o h2 (keep b o h1 h2 e))) (Heap.get?_update_self _ hS' rfl) ?_⟩) (by rw [la]; omega) (by show (acc.push (Value.ref h.objs.size)).size ≤ sizeLine + 1; rw [Array.size_push]; omega)
    · by_cases e : j = i
      · subst e
        refine up _ _ (Nat.ne_of_gt (Nat.lt_of_lt_of_le hSN (Nat.le_add_right _ _))) ?_
        rw [← sz]
        exact t'
      · exact up _ _ (Nat.ne_of_gt (Nat.lt_of_lt_of_le hSN (Nat.le_add_right _ _))) (k' _ _ (Nat.ne_of_gt (Nat.lt_of_lt_of_le hIN (Nat.le_add_right _ _))) (tup j hj (by omega)))
    · rw [Array.toList_push, hacc, List.range_succ, List.map_append, sz]
      rfl
theorem view_iter {vw : Addr} {Q : Value → Shared → Prop} (hv : s.heap.IsItemsView vw d) (hg : s.heap.get? d = some od) (ht : od.data = .dict es ep)
    (q : Q (.ref s.heap.objs.size) { s with heap := s.heap.push (itF d 0 es.size ep .none (.bool false) .none .none) }) : wpAny (model prog w) A (pyIter (.ref vw)) Q E s := by
  obtain ⟨ov, h1, h2, h3⟩ := id hv
  have ty := hv.typeIs
  refine wpAny_pyIter_slot ty F.slot_dict_items_iter (wpAny_call_entry F.slot_dict_items_iter ty F.entry_dict_items_iter ?_ (F.args_dict_items_iter_1 _))
  unfold Builtin.«dict_items.__iter__»
  refine wpAny_bind (wpAny_pure (wpAny_bind ?_))
  unfold Builtin.Dict_items.dictOf
  refine wpAny_bind (wpAny_field h1 h3 (x := .ref d) rfl (wpAny_pure (wpAny_bind ?_)))
  unfold Builtin.Dict_items.newIterator
  refine wpAny_bind (wpAny_dictEntries hg ht (wpAny_bind (wpAny_dictEpoch hg ht ?_)))
  simp only [show Builtin.Dict_items.ownsTuple "dict_itemiterator" = true by decide, if_true]
  refine wpAny_newObj_type (wpAny_pure ⟨_, rfl, "dict_itemiterator", _, ⟨_, Heap.get?_push_size _ rfl, rfl⟩, F.slot_dict_itemiterator_next.lookup, ?_⟩) (by simp [sizeOk, Builtin.Dict_items.ownedTupleFields, sizeLine_eq])
  simpa [rawInt, itF, Builtin.Dict_items.ownedTupleFields] using q
theorem items_list {vw : Addr} {Q : Value → Shared → Prop} (hh : A.handled = none) (hv : s.heap.IsItemsView vw d) (hg : s.heap.get? d = some od) (ht : od.data = .dict es ep) (hn : es.size ≤ sizeLine)
    (q : ∀ h' tk acc c, (∀ b o, s.heap.get? b = some o → h'.get? b = some o) → h'.get? s.heap.objs.size = some { cls := .type "list", dict := none, data := .seq acc c, slots := #[] } → acc.toList = (List.range es.size).map (fun j => Value.ref (s.heap.objs.size + 2 + j)) →
      (∀ j (hj : j < es.size), h'.get? (s.heap.objs.size + 2 + j) = some { cls := .type "tuple", data := .seq #[es[j].key, es[j].val] }) → Q (.ref s.heap.objs.size) { s with heap := h', toks := tk }) :
    wpAny (model prog w) A (call (.type "list") [.ref vw]) Q E s := by
  refine callType_codes (Q₁ := fun obj s₁ => obj = .ref s.heap.objs.size ∧ s₁ = { s with heap := s.heap.push { cls := .type "list", data := .seq #[] } }) PySem.F.called_list (PySem.F.typeCall_list_1 _) PySem.F.entry_list_init (code_list_new _ ⟨rfl, rfl⟩) fun obj s₁ h₁ => ?_
  obtain ⟨rfl, rfl⟩ := h₁
  have hS : (s.heap.push { cls := .type "list", data := .seq #[] }).get? s.heap.objs.size = some { cls := .type "list", data := .seq #[] } := Heap.get?_push_size _ rfl
  refine ⟨⟨_, hS, rfl⟩, PySem.F.args_list_init_2 _ _, ?_⟩
  refine (show wpAny _ _ (do let old ← Builtin.List.listItems (.ref s.heap.objs.size); Builtin.List.listUpdate (.ref s.heap.objs.size) (fun _ => #[]); letGo old.toList.reverse; Builtin.List.listExtendWith (.ref s.heap.objs.size) (.ref vw) .none) _ _ _ from wpAny_bind ?_)
  unfold Builtin.List.listItems
  refine wpAny_bind (wpAny_seqItems hS rfl (wpAny_pure ?_))
  refine (show wpAny _ _ (updateSeq s.heap.objs.size (fun _ => #[]) >>= fun _ => letGo (#[] : Array Value).toList.reverse >>= fun _ => Builtin.List.listExtendWith (.ref s.heap.objs.size) (.ref vw) .none) _ _ _ from wpAny_bind (wpAny_updateSeq hS rfl ?_))
  have h2 := Heap.get?_update_self (Obj.mapSeq (fun _ => (#[] : Array Value))) hS rfl
  obtain ⟨H2, eH2⟩ : ∃ H2, H2 = (s.heap.push { cls := .type "list", data := .seq #[] }).update s.heap.objs.size (Obj.mapSeq (fun _ => (#[] : Array Value))) := ⟨_, rfl⟩
  have k2 : ∀ b o, s.heap.get? b = some o → H2.get? b = some o := fun b o e => by rw [eH2]; exact (Heap.get?_update_other _ _ (Nat.ne_of_gt (Heap.lt_size e))).trans (Heap.get?_push_of_some _ e)
  have sz2 : H2.objs.size = s.heap.objs.size + 1 := by rw [eH2, Heap.size_update, Heap.size_push]
  have ld : d < s.heap.objs.size := Heap.lt_size hg
  have lv : vw < s.heap.objs.size := let ⟨_, e, _⟩ := hv; Heap.lt_size e
  rw [← eH2] at h2 ⊢
  refine wpAny_bind (wpAny_letGo ?_)
  have hv2 : H2.IsItemsView vw d := let ⟨o, e, c⟩ := hv; ⟨o, k2 _ _ e, c⟩
  have ty2 : ({ s with heap := H2 } : Shared).TypeIs (.ref vw) "dict_items" := hv2.typeIs
  unfold Builtin.List.listExtendWith
  refine wpAny_bind (wpAny_typeOf (T := "dict_items") ty2 ?_)
  simp only [show Builtin.List.listSameRef (.ref s.heap.objs.size) (.ref vw) = false by simp [Builtin.List.listSameRef]; exact Nat.ne_of_gt lv, show (Value.type "dict_items" == Value.type "list") = false by decide, show (Value.type "dict_items" == Value.type "tuple") = false by decide, Bool.or_false, Bool.false_eq_true, if_false]
  refine wpAny_bind (view_iter (s := { s with heap := H2 }) hv2 (k2 _ _ hg) ht ?_)
  dsimp only
  obtain ⟨H3, eH3⟩ : ∃ H3, H3 = H2.push (itF d 0 es.size ep .none (.bool false) .none .none) := ⟨_, rfl⟩
  have hI : H3.get? H2.objs.size = some (itF d 0 es.size ep .none (.bool false) .none .none) := by rw [eH3]; exact Heap.get?_push_size _ rfl
  have sz3 : H3.objs.size = s.heap.objs.size + 2 := by rw [eH3, Heap.size_push, sz2]
  have k3 : ∀ b o, H2.get? b = some o → H3.get? b = some o := fun b o e => by rw [eH3]; exact Heap.get?_push_of_some _ e
  rw [← eH3]
  refine wpAny_bind (wpAny_holding (PySem.W.kdx_hint (s := { s with heap := H3 }) (let ⟨o, e, c, _⟩ := hv2; ⟨o, k3 _ _ e, c⟩) ?_))
  have IS : H2.objs.size ≠ s.heap.objs.size := by rw [sz2]; exact Nat.succ_ne_self _
  have key : ∀ (h : Heap) (c tk : Nat), (∀ b o, b ≠ s.heap.objs.size → H3.get? b = some o → h.get? b = some o) → h.objs.size = s.heap.objs.size + 2 → h.get? s.heap.objs.size = some { cls := .type "list", data := .seq #[] c } →
      codeAny (model prog w) A.in1 (.builtin "list.extend.loop" ⟨[.ref s.heap.objs.size, .ref H2.objs.size, .none], []⟩) (wants (fun r s₂ => r = Value.none ∧ Q (.ref s.heap.objs.size) s₂) E) { s with heap := h, toks := tk } := by
    intro h c tk hk hz hL
    refine items_loop (A := A.in1) (R := wants (fun r s₂ => r = Value.none ∧ Q (.ref s.heap.objs.size) s₂) E) (res := .none) (s := s) (h1 := H3) (N0 := s.heap.objs.size + 2) (od := od) hh IS (Nat.lt_succ_of_lt (Nat.lt_succ_self _)) (by rw [sz2]; exact Nat.lt_succ_self _) (Nat.ne_of_lt ld) (by rw [sz2]; exact Nat.ne_of_lt (Nat.lt_succ_of_lt ld)) ht hn (fun h' tk' acc c' k4 e1 e2 e3 => ⟨rfl, ?_⟩) es.size 0 h tk c #[] rfl (Nat.zero_le _)
      ⟨_, _, _, _, hk _ _ IS hI, .inl rfl⟩ (hk _ _ (Nat.ne_of_lt ld) (k3 _ _ (k2 _ _ hg))) hz (fun j _ hj => absurd hj (Nat.not_lt_zero _)) (fun b o h1 _ e => hk b o h1 e) hL rfl
    exact q h' tk' acc c' (fun b o e => k4 b o (Nat.ne_of_lt (Heap.lt_size e)) (by rw [sz2]; exact Nat.ne_of_lt (Nat.lt_succ_of_lt (Heap.lt_size e))) (k3 _ _ (k2 _ _ e))) e1 e2 e3
  have hS3 := k3 _ _ h2
  refine wpAny_ite_split (fun _ => wpAny_bind (wpAny_rule (wpAny_bind ?_))) (fun _ => wpAny_pure ⟨plainId_quiet PySem.F.plain_extend_loop _, key _ _ _ (fun b o _ e => e) sz3 hS3⟩)
  refine (show wpAny _ _ (updateSeq s.heap.objs.size (·.push .none) >>= fun _ => updateSeq s.heap.objs.size (·.pop)) _ _ _ from wpAny_bind (wpAny_updateSeq hS3 rfl ?_))
  have h4 := Heap.get?_update_self (Obj.mapSeq (·.push Value.none)) hS3 rfl
  refine wpAny_updateSeq (hz := by seq_fits) h4 rfl (wpAny_pure ⟨plainId_quiet PySem.F.plain_extend_loop _, key _ _ _ (fun b o hb e => ?_) (by rw [Heap.size_update, Heap.size_update, sz3]) (Heap.get?_update_self (Obj.mapSeq (·.pop)) h4 rfl)⟩)
  exact (Heap.get?_update_other _ _ (Ne.symm hb)).trans ((Heap.get?_update_other _ _ (Ne.symm hb)).trans e)
theorem items_view {Q : Value → Shared → Prop} (nd : (d == sysModules) = false) (hg : s.heap.get? d = some od) (hx : od.ExactDict)
    (q : Q (.ref s.heap.objs.size) { s with heap := s.heap.push { cls := .type "dict_items", data := .fields #[.ref d] } }) : wpAny (model prog w) A (call (.builtin "dict.items") [.ref d]) Q E s := by
  have ty : s.TypeIs (.ref d) "dict" := ⟨od, hg, hx.1⟩
  refine wpAny_call_entry F.slot_dict_items ty F.entry_dict_items ?_ (F.args_dict_items_1 _)
  unfold Builtin.«dict.items»
  unfold Builtin.Dict.noArgs
  refine wpAny_bind (wpAny_bind (wpAny_notOrdered_dict ty (wpAny_pure ?_)))
  refine (show wpAny _ _ (Builtin.Dict.showsAll d >>= _) _ _ s from ?_)
  unfold Builtin.Dict.showsAll
  rw [if_neg (by rw [nd]; exact Bool.false_ne_true)]
  exact wpAny_bind (wpAny_pure (wpAny_bind (wpAny_newObj_type (wpAny_pure ⟨_, rfl, q⟩))))
end
/-! ### many new objects at once -/
def lay (H nw : Hp) : Hp := fun b => match nw b with | some o => some o | none => H b
theorem lay_new {H nw : Hp} {b : Addr} {o : HO} (e : nw b = some o) : lay H nw b = some o := by unfold lay; rw [e]
theorem lay_old {H nw : Hp} {b : Addr} (e : nw b = none) : lay H nw b = H b := by unfold lay; rw [e]
section
variable {P : Program} {w : World} {H nw : Hp} {h h' : Heap}
theorem HOk.laidMany (x : HOk P w H h) (k : ∀ b u, h.get? b = some u → h'.get? b = some u) (hn : ∀ b o, nw b = some o → h.get? b = none) (new : ∀ b o, nw b = some o → ObjOk P w (lay H nw) h' b o) : HOk P w (lay H nw) h' := by
  have old : ∀ c o, H c = some o → nw c = none := fun c o e => by
    cases q : nw c with
    | none => rfl
    | some u => have := x.noneAt (hn c u q); rw [e] at this; cases this
  intro b u e
  cases q : nw b with
  | some o => rw [lay_new q] at e; cases e; exact new b _ q
  | none =>
    rw [lay_old q] at e
    exact (x b u e).stay (fun c v _ z => k c v z) (fun c z => by rw [lay_old (old _ _ z)]; exact z) fun c xs z => by rw [lay_old (old _ _ z)]; exact z
theorem Un.laidMany {fs ex : List Addr} (x : HOk P w H h) (k : ∀ b u, h.get? b = some u → h'.get? b = some u) (hn : ∀ b o, nw b = some o → h.get? b = none) : Un fs ex H (lay H nw) h h' := by
  have old : ∀ c o, H c = some o → nw c = none := fun c o e => by
    cases q : nw c with
    | none => rfl
    | some u => have := x.noneAt (hn c u q); rw [e] at this; cases this
  have there : ∀ c o, h.get? c = some o → nw c = none := fun c o e => by
    cases q : nw c with
    | none => rfl
    | some u => have := hn c u q; rw [e] at this; cases this
  exact ⟨fun b u q _ _ _ => k b u q, fun b u q _ _ _ => ⟨u.slots, k b u q⟩, fun b u q n _ => by rw [lay_old (there b u q)]; exact n, fun b u q _ => ⟨u, k b u q⟩,
    fun b xs q => by rw [lay_old (old _ _ q)]; exact q, fun b u xs q => by rw [lay_old (old _ _ q)]; exact q, fun b ps q => ⟨#[], by rw [lay_old (old _ _ q), q]; simp⟩⟩
end
theorem Inv.laidMany {X : Cx} {pins : List (Addr × Obj)} {σ : St} {H nw : Hp} {s : Shared} {h' : Heap} {t' : Nat} (I : Inv X pins σ H s) (k : ∀ b u, s.heap.get? b = some u → h'.get? b = some u) (hn : ∀ b o, nw b = some o → s.heap.get? b = none)
    (new : ∀ b o, nw b = some o → ObjOk X.prog X.w (lay H nw) h' b o) : Inv X pins σ (lay H nw) { s with heap := h', toks := t' } := I.un (Un.laidMany I.hok k hn) (I.hok.laidMany k hn new)
/-! ### the rule -/
section
variable {X : Cx}
/-- the tuples at ys are the pairs of kvs -/
def PairsT (H : Hp) : List V → List (List Key × V) → Prop := Paired fun y kv => ∃ t b, y = .ref t ∧ H t = some (.tup [.ref b, kv.2]) ∧ H b = some (.tup (kv.1.map kV))
inductive I_itemsL (Q : VK) (x : V) (H : Hp) : Prop where
  | mk (a : Addr) (kvs : List (List Key × V)) (h0 : x = .ref a) (h1 : Rd H a (.dT kvs)) (h2 : ∀ (l : Addr) (H' : Hp) (ys : List V), (∀ b o, H b = some o → H' b = some o) → H l = none → H' l = some (.lst ys) → PairsT H' ys kvs → Q (.ref l) H') : I_itemsL Q x H
def tItemsL (to : TE) : TE := fun σ H Q => to σ H fun x H1 => I_itemsL Q x H1
theorem paired_build {α β : Type} {F : α → β → Prop} : ∀ (l₁ : List α) (l₂ : List β), l₁.length = l₂.length → (∀ (i : Nat) (a : α) (b : β), l₁[i]? = some a → l₂[i]? = some b → F a b) → Paired F l₁ l₂
  | [], [], _, _ => .nil
  | [], _ :: _, h, _ => by simp at h
  | _ :: _, [], h, _ => by simp at h
  | a :: l₁, b :: l₂, h, f => .cons (f 0 a b rfl rfl) (paired_build l₁ l₂ (by simpa using h) fun i a b e1 e2 => f (i + 1) a b (by simpa using e1) (by simpa using e2))
theorem pe_itemsL {o : Expr} {to : TE} {p apos cpos pos : Pos} (hc : X.calm = true) (hg : Gl X "list") (hm : X.mg "list" = none) (ho : PE X o to)
    (hbase : attributeBase o "items" X.env (eval o X.env) = eval o X.env := by rfl) (hline : (apos.endLine == cpos.line) = true := by rfl)
    (hs2 : starEach [Expr.Call (.Attribute o "items" apos) [] [] cpos] X.env = (false, eval (.Call (.Attribute o "items" apos) [] [] cpos) X.env) :: starEach [] X.env := by rfl)
    (hv : bootBuiltins "list" = some (.type "list") := by decide +kernel) :
    PE X (.Call (.Name "list" p) [.Call (.Attribute o "items" apos) [] [] cpos] [] pos) (tItemsL to) := by
  intro pins s σ H Q I h
  refine wpAny_Call_Name_kw (ld_blt I hg hm hv (PyProof.Rows.callWith_type1 ?_ hs2))
  rw [hs2]
  refine Calls.spliced_cons (wpAny_Call_method0_late hbase hline (thn (ho pins s σ H _ I h) fun u s1 ⟨x, H1, I1, r1, q1⟩ => ?_))
  obtain ⟨a, kvs, rfl, ha, q⟩ := q1
  cases (show u = Value.ref a from r1)
  obtain ⟨t1, t2, _⟩ := isD_at I1 (.inr ⟨kvs, ha⟩)
  obtain ⟨z, nd, xs, rel, od, es, ep, g1, g2, g3, g4, g5⟩ := (show ObjOk X.prog X.w H1 s1.heap a (.dT kvs) from rd_of I1.hok ha)
  have ln : es.size = xs.length := by have := congrArg List.length g4; simpa using this
  have lk : kvs.length = xs.length := Paired.length rel
  refine ⟨"dict", "dict.items", PySem.F.plainAttrs_dict, PySem.F.slot_dict_items, PySem.F.type_dict_items, t1, t2, Calls.callWith_builtin rfl (PySem.evalArgs_none (items_view nd g1 g2 (Calls.spliced_nil ?_)))⟩
  obtain ⟨B, eB⟩ : ∃ B, B = (s1.heap.push { cls := .type "dict_items", data := .fields #[.ref a] }).objs.size := ⟨_, rfl⟩
  have sB : B = s1.heap.objs.size + 1 := by rw [eB, Heap.size_push]
  refine items_list (s := { s1 with heap := s1.heap.push { cls := .type "dict_items", data := .fields #[.ref a] } }) (I1.ok.hd hc) ⟨_, Heap.get?_push_size _ rfl, rfl, rfl⟩ (Heap.get?_push_of_some _ g1) g3 (by omega) fun h' tk acc c hk hS hacc htup => ?_
  dsimp only at hk hS hacc htup ⊢
  rw [← eB] at hS hacc htup ⊢
  have k2 : ∀ b o, s1.heap.get? b = some o → h'.get? b = some o := fun b o e => hk b o (Heap.get?_push_of_some _ e)
  obtain ⟨nw, enw⟩ : ∃ nw : Hp, nw = fun b => if b = B then some (.lst ((List.range xs.length).map fun j => V.ref (B + 2 + j))) else match kvs[b - (B + 2)]?, xs[b - (B + 2)]? with
    | some kv, some q => if B + 2 ≤ b then some (.tup [.ref q.2.1, kv.2]) else none
    | _, _ => none := ⟨_, rfl⟩
  have nB : nw B = some (.lst ((List.range xs.length).map fun j => V.ref (B + 2 + j))) := by rw [enw]; exact if_pos rfl
  have nT : ∀ (j : Nat) (kv : List Key × V) (qq : List Key × Addr × Value), kvs[j]? = some kv → xs[j]? = some qq → nw (B + 2 + j) = some (.tup [.ref qq.2.1, kv.2]) := fun j kv qq e1 e2 => by
    have e3 : B + 2 + j - (B + 2) = j := by omega
    have e4 : ¬ B + 2 + j = B := by omega
    rw [enw]
    simp only [e4, if_false, e3, e1, e2, Nat.le_add_right, if_true]
  have inv : ∀ b o, nw b = some o → (b = B ∧ o = .lst ((List.range xs.length).map fun j => V.ref (B + 2 + j))) ∨ ∃ (j : Nat) (kv : List Key × V) (qq : List Key × Addr × Value), b = B + 2 + j ∧ kvs[j]? = some kv ∧ xs[j]? = some qq ∧ o = .tup [.ref qq.2.1, kv.2] := by
    intro b o e
    rw [enw] at e
    by_cases hb : b = B
    · simp only [hb, if_true] at e
      cases e
      exact .inl ⟨hb, rfl⟩
    · simp only [hb, if_false] at e
      cases e1 : kvs[b - (B + 2)]? with
      | none => rw [e1] at e; cases e
      | some kv =>
        cases e2 : xs[b - (B + 2)]? with
        | none => rw [e1, e2] at e; cases e
        | some qq =>
          rw [e1, e2] at e
          by_cases hl : B + 2 ≤ b
          · simp only [hl, if_true] at e
            cases e
            exact .inr ⟨b - (B + 2), kv, qq, (Nat.add_sub_cancel' hl).symm, e1, e2, rfl⟩
          · simp only [hl, if_false] at e
            cases e
  have hn : ∀ b o, nw b = some o → s1.heap.get? b = none := fun b o e => by
    have hb : s1.heap.objs.size ≤ b := by
      rcases inv b o e with ⟨rfl, _⟩ | ⟨j, _, _, rfl, _⟩
      · rw [sB]; exact Nat.le_succ _
      · rw [sB]; omega
    cases z : s1.heap.get? b with
    | none => rfl
    | some u => exact absurd (Heap.lt_size z) (Nat.not_lt.mpr hb)
  have ent : ∀ (j : Nat) (qq : List Key × Addr × Value), xs[j]? = some qq → ∃ hj : j < es.size, es[j] = entryOfKey (tupleKind (mixKind X.prog X.w)) qq := fun j qq e => by
    have e1 : es.toList[j]? = some (entryOfKey (tupleKind (mixKind X.prog X.w)) qq) := by rw [g4, List.getElem?_map, e]; rfl
    obtain ⟨hj, e2⟩ := List.getElem?_eq_some_iff.mp e1
    exact ⟨by simpa using hj, by simpa using e2⟩
  have I2 : Inv X pins σ (lay H1 nw) { s1 with heap := h', toks := tk } := by
    refine I1.laidMany k2 hn fun b o e => ?_
    rcases inv b o e with ⟨rfl, rfl⟩ | ⟨j, kv, qq, rfl, e1, e2, rfl⟩
    · refine ⟨by simp; omega, acc.toList, c, ?_, by rw [Array.toArray_toList]; exact hS⟩
      rw [hacc, ln]
      have vm : ∀ l : List Nat, Vals (l.map fun j => V.ref (b + 2 + j)) (l.map fun j => Value.ref (b + 2 + j)) := by
        intro l
        induction l with
        | nil => exact .nil
        | cons m l ih => exact .cons rfl ih
      exact vm _
    · obtain ⟨hj, e3⟩ := ent j qq e2
      obtain ⟨q', w1, w2, w3, w4⟩ := KT.at rel e1
      rw [e2] at w1
      cases w1
      have tj := htup j hj
      rw [e3] at tj
      exact ⟨by rw [sizeLine_eq]; simp, [.ref qq.2.1, qq.2.2], .cons rfl (.cons w4 .nil), _, tj, rfl, 0, rfl⟩
  refine ⟨.ref B, _, I2, rfl, q B _ ((List.range xs.length).map fun j => V.ref (B + 2 + j)) (fun b o e => ?_) (I1.hok.noneAt (hn _ _ nB)) (lay_new nB) ?_⟩
  · cases z : nw b with
    | none => rw [lay_old z]; exact e
    | some u => have := I1.hok.noneAt (hn b u z); rw [e] at this; cases this
  · refine paired_build _ _ (by simp [lk]) fun i y kv e1 e2 => ?_
    obtain ⟨qq, w1, w2, w3, w4⟩ := KT.at rel e2
    rw [List.getElem?_map] at e1
    obtain ⟨i', e3, e4⟩ := Option.map_eq_some_iff.mp e1
    have e5 : i' = i := by
      rw [List.getElem?_range (by have := (List.getElem?_eq_some_iff.mp w1).1; omega)] at e3
      exact (Option.some.inj e3).symm
    subst e5
    refine ⟨B + 2 + i', qq.2.1, e4.symm, lay_new (nT i' kv qq e2 w1), ?_⟩
    cases z : nw qq.2.1 with
    | none => rw [lay_old z]; exact w3
    | some u => have := I1.hok.noneAt (hn _ u z); rw [w3] at this; cases this
end
end L2

namespace J
/-! moves and states, by plain lists -/
inductive Mv where
  | pour (a b : Nat) | fill (a : Nat) | emp (a : Nat)
  deriving DecidableEq
def at0 (l : List Int) (i : Nat) : Int := l.getD i 0
def much (sz st : List Int) (a b : Nat) : Int := if at0 sz b - at0 st b < at0 st a then at0 sz b - at0 st b else at0 st a
def behind (sz st : List Int) : Mv → List Int
  | .pour a b => (st.set a (at0 st a - much sz st a b)).set b (at0 st b + much sz st a b)
  | .fill a => st.set a (at0 sz a)
  | .emp a => st.set a 0
def pours (n : Nat) : List Mv := (List.range n).flatMap fun a => ((List.range n).filter fun b => b != a).map fun b => Mv.pour a b
def moves (n : Nat) (tap : Bool) : List Mv := pours n ++ if tap = true then (List.range n).map Mv.fill ++ (List.range n).map Mv.emp else []
/-- a move of a house with n jugs -/
def Mv.ok (n : Nat) (tap : Bool) : Mv → Prop
  | .pour a b => a < n ∧ b < n ∧ a ≠ b
  | .fill a => a < n ∧ tap = true
  | .emp a => a < n ∧ tap = true
theorem mem_moves {n : Nat} {tap : Bool} {m : Mv} : m ∈ moves n tap ↔ m.ok n tap := by
  unfold moves pours
  cases tap <;> cases m <;> simp [Mv.ok] <;> (try omega)
  all_goals
    constructor
    · rintro ⟨h1, h2, h3⟩; exact ⟨h1, h2, fun e => h3 e.symm⟩
    · rintro ⟨h1, h2, h3⟩; exact ⟨h1, h2, fun e => h3 e.symm⟩
structure IsSt (sz st : List Int) : Prop where
  len : st.length = sz.length
  bnd : ∀ i, i < sz.length → 0 ≤ at0 st i ∧ at0 st i ≤ at0 sz i
theorem at0_set (l : List Int) (a i : Nat) (v : Int) : at0 (l.set a v) i = if a = i ∧ i < l.length then v else at0 l i := by
  unfold at0
  simp only [List.getD_eq_getElem?_getD, List.getElem?_set]
  by_cases h : a = i
  · subst h
    by_cases hl : a < l.length
    · simp [hl]
    · simp [hl]
  · simp [h]
theorem IsSt.behind {sz st : List Int} {tap : Bool} {m : Mv} (hs : ∀ i, i < sz.length → 0 ≤ at0 sz i) (h : IsSt sz st) (hm : m.ok sz.length tap) : IsSt sz (behind sz st m) := by
  have hl := h.len
  cases m with
  | pour a b =>
    obtain ⟨ha, hb, hab⟩ := hm
    have h1 := h.bnd a ha
    have h2 := h.bnd b hb
    refine ⟨by simp [J.behind, hl], fun i hi => ?_⟩
    have h3 := h.bnd i hi
    simp only [J.behind, at0_set, List.length_set, hl]
    unfold much
    by_cases e1 : b = i
    · subst e1; simp only [hi, and_self, if_true]; split <;> omega
    · simp only [e1, false_and, if_false]
      by_cases e2 : a = i
      · subst e2; simp only [hi, and_self, if_true]; split <;> omega
      · simp only [e2, false_and, if_false]; exact h3
  | fill a =>
    refine ⟨by simp [J.behind, hl], fun i hi => ?_⟩
    have h3 := h.bnd i hi
    have h4 := hs i hi
    simp only [J.behind, at0_set, hl]
    by_cases e2 : a = i
    · subst e2; simp only [hi, and_self, if_true]; omega
    · simp only [e2, false_and, if_false]; exact h3
  | emp a =>
    refine ⟨by simp [J.behind, hl], fun i hi => ?_⟩
    have h3 := h.bnd i hi
    have h4 := hs i hi
    simp only [J.behind, at0_set, hl]
    by_cases e2 : a = i
    · subst e2; simp only [hi, and_self, if_true]; omega
    · simp only [e2, false_and, if_false]; exact h3
/-! all states -/
def more (told : List (List Int)) (size : Int) : List (List Int) := told.flatMap fun st => (List.range (size + 1).toNat).map fun (k : Nat) => st ++ [(k : Int)]
def states (sz : List Int) : List (List Int) := sz.foldl more [[]]
def prod1 (sz : List Int) : Int := sz.foldl (fun m s => m * (s + 1)) 1
theorem mem_fold (sz : List Int) : ∀ (L : List (List Int)) (x : List Int), x ∈ sz.foldl more L ↔ ∃ l ∈ L, ∃ t : List Int, x = l ++ t ∧ IsSt sz t := by
  induction sz with
  | nil =>
    intro L x
    simp only [List.foldl_nil]
    constructor
    · intro h; exact ⟨x, h, [], by simp, ⟨rfl, fun i hi => by simp at hi⟩⟩
    · rintro ⟨l, hl, t, rfl, ht⟩
      have : t = [] := by have := ht.len; simpa using this
      subst this; simpa using hl
  | cons s r ih =>
    intro L x
    rw [List.foldl_cons, ih]
    constructor
    · rintro ⟨l, hl, t, rfl, ht⟩
      unfold more at hl
      simp only [List.mem_flatMap, List.mem_map, List.mem_range] at hl
      obtain ⟨l0, h0, k, hk, rfl⟩ := hl
      refine ⟨l0, h0, (k : Int) :: t, by simp, ⟨by simp [ht.len], fun i hi => ?_⟩⟩
      cases i with
      | zero => simp [at0]; omega
      | succ i => have := ht.bnd i (by simpa using hi); simpa [at0] using this
    · rintro ⟨l, hl, t, rfl, ht⟩
      cases t with
      | nil => have := ht.len; simp at this
      | cons v t =>
        refine ⟨l ++ [v], ?_, t, by simp, ⟨by have := ht.len; simpa using this, fun i hi => ?_⟩⟩
        · unfold more
          simp only [List.mem_flatMap, List.mem_map, List.mem_range]
          have := ht.bnd 0 (by simp)
          simp [at0] at this
          exact ⟨l, hl, v.toNat, by omega, by rw [Int.toNat_of_nonneg this.1]⟩
        · have := ht.bnd (i + 1) (by simpa using hi); simpa [at0] using this
theorem mem_states {sz x : List Int} : x ∈ states sz ↔ IsSt sz x := by
  unfold states
  rw [mem_fold]
  constructor
  · rintro ⟨l, hl, t, rfl, ht⟩
    have : l = [] := by simpa using hl
    subst this; simpa using ht
  · intro h; exact ⟨[], by simp, x, by simp, h⟩
theorem len_more (L : List (List Int)) (s : Int) : (more L s).length = L.length * (s + 1).toNat := by
  unfold more
  induction L with
  | nil => simp
  | cons a L ih => rw [List.flatMap_cons, List.length_append, ih]; simp [Nat.add_mul]; omega
theorem len_fold (sz : List Int) (hs : ∀ s ∈ sz, 0 ≤ s) : ∀ (L : List (List Int)) (p : Int), (L.length : Int) = p → ((sz.foldl more L).length : Int) = sz.foldl (fun m s => m * (s + 1)) p := by
  induction sz with
  | nil => intro L p h; simpa using h
  | cons s r ih =>
    intro L p h
    rw [List.foldl_cons, List.foldl_cons]
    refine ih (fun x hx => hs x (List.mem_cons_of_mem _ hx)) _ _ ?_
    have := hs s List.mem_cons_self
    rw [len_more, Int.natCast_mul, h, Int.toNat_of_nonneg (by omega)]
theorem len_states {sz : List Int} (hs : ∀ s ∈ sz, 0 ≤ s) : ((states sz).length : Int) = prod1 sz := len_fold sz hs _ _ (by simp)
theorem nodup_le {α : Type} [DecidableEq α] : ∀ (xs ys : List α), xs.Nodup → (∀ x ∈ xs, x ∈ ys) → xs.length ≤ ys.length
  | [], ys, _, _ => by simp
  | x :: xs, ys, nd, h => by
    have hx : x ∈ ys := h x List.mem_cons_self
    obtain ⟨hn, nd'⟩ := List.nodup_cons.mp nd
    have := nodup_le xs (ys.erase x) nd' fun z hz => (List.mem_erase_of_ne (show z ≠ x from fun e => hn (e ▸ hz))).mpr (h z (List.mem_cons_of_mem _ hz))
    rw [List.length_erase_of_mem hx] at this
    have : 0 < ys.length := List.length_pos_of_mem hx
    simp only [List.length_cons]; omega
end J

namespace J
/-! the walk from a state: each state found, with the place of the one ahead of it and the move -/
abbrev Way := List Int × Option (Nat × Mv)
def addOne (sz here : List Int) (p : Nat) (w : List Way) (m : Mv) : List Way :=
  if behind sz here m ∈ w.map (·.1) then w else w ++ [(behind sz here m, some (p, m))]
def addAll (sz here : List Int) (p : Nat) (ms : List Mv) (w : List Way) : List Way := ms.foldl (addOne sz here p) w
def run (sz : List Int) (ms : List Mv) (st : List Int) : Nat → List Way
  | 0 => [(st, none)]
  | p + 1 => match (run sz ms st p)[p]? with
    | none => run sz ms st p
    | some x => addAll sz x.1 p ms (run sz ms st p)
def ways (sz : List Int) (ms : List Mv) (st : List Int) : List Way := run sz ms st (states sz).length
theorem snoc_get {α : Type} {W : List α} {e y : α} {i : Nat} : (W ++ [e])[i]? = some y ↔ W[i]? = some y ∨ (i = W.length ∧ y = e) := by
  rw [List.getElem?_append]
  by_cases h : i < W.length
  · rw [if_pos h]
    constructor
    · exact .inl
    · rintro (z | ⟨z, _⟩)
      · exact z
      · omega
  · rw [if_neg h]
    constructor
    · intro z
      obtain ⟨hl, z⟩ := List.getElem?_eq_some_iff.mp z
      simp at hl
      refine .inr ⟨by omega, ?_⟩
      have : i - W.length = 0 := by omega
      simp [this] at z
      exact z.symm
    · rintro (z | ⟨z, rfl⟩)
      · have := (List.getElem?_eq_some_iff.mp z).1; omega
      · subst z; simp
structure WIn (sz : List Int) (ms : List Mv) (st : List Int) (p : Nat) (P : Nat) (done : List Mv) (W : List Way) : Prop where
  hd : W[0]? = some (st, none)
  nd : (W.map (·.1)).Nodup
  sts : ∀ x ∈ W, IsSt sz x.1
  par : ∀ (i : Nat) (x : List Int) (q : Nat) (m : Mv), W[i]? = some (x, some (q, m)) → q < P ∧ q < i ∧ m ∈ ms ∧ ∃ y, W[q]? = some y ∧ x = behind sz y.1 m
  non : ∀ (i : Nat) (x : List Int), W[i]? = some (x, none) → i = 0
  mono : ∀ (i j : Nat) (x y : List Int) (q : Nat) (m : Mv) (q' : Nat) (m' : Mv), i ≤ j → W[i]? = some (x, some (q, m)) → W[j]? = some (y, some (q', m')) → q ≤ q'
  cls : ∀ (i : Nat) (x : Way) (m : Mv), W[i]? = some x → (i < p ∧ m ∈ ms) ∨ (i = p ∧ m ∈ done) → ∃ (j : Nat) (y : Way), W[j]? = some y ∧ y.1 = behind sz x.1 m ∧ (y.2 = none ∨ ∃ q m', y.2 = some (q, m') ∧ q ≤ i)
section
variable {sz st : List Int} {ms done : List Mv} {p P : Nat} {W : List Way} {here : List Int} {m : Mv}
theorem WIn.add (h : WIn sz ms st p (p + 1) done W) (hp : ∃ o, W[p]? = some (here, o)) (hm : m ∈ ms) (hs : IsSt sz (behind sz here m)) : WIn sz ms st p (p + 1) (done ++ [m]) (addOne sz here p W m) := by
  obtain ⟨o, hp⟩ := hp
  have plt : p < W.length := (List.getElem?_eq_some_iff.mp hp).1
  unfold addOne
  by_cases hb : behind sz here m ∈ W.map (·.1)
  · rw [if_pos hb]
    refine ⟨h.hd, h.nd, h.sts, h.par, h.non, h.mono, fun i x m' hx hc => ?_⟩
    rcases hc with ⟨h1, h2⟩ | ⟨h1, h2⟩
    · exact h.cls i x m' hx (.inl ⟨h1, h2⟩)
    · rcases List.mem_append.mp h2 with h3 | h3
      · exact h.cls i x m' hx (.inr ⟨h1, h3⟩)
      · have e : m' = m := by simpa using h3
        subst e; subst h1
        rw [hp] at hx; cases hx
        obtain ⟨y, hy, e⟩ := List.mem_map.mp hb
        obtain ⟨j, hj⟩ := List.mem_iff_getElem?.mp hy
        refine ⟨j, y, hj, e, ?_⟩
        obtain ⟨y1, y2⟩ := y
        cases y2 with
        | none => exact .inl rfl
        | some qm => obtain ⟨q, m''⟩ := qm; exact .inr ⟨q, m'', rfl, by have := (h.par j _ _ _ hj).1; omega⟩
  · rw [if_neg hb]
    refine ⟨?_, ?_, ?_, ?_, ?_, ?_, ?_⟩
    · exact snoc_get.mpr (.inl h.hd)
    · rw [List.map_append, List.nodup_append]
      refine ⟨h.nd, by simp, fun a ha b hb' e => ?_⟩
      have : b = behind sz here m := by simpa using hb'
      subst this; subst e; exact hb ha
    · intro x hx
      rcases List.mem_append.mp hx with z | z
      · exact h.sts x z
      · have : x = (behind sz here m, some (p, m)) := by simpa using z
        subst this; exact hs
    · intro i x q m' hx
      rcases snoc_get.mp hx with z | ⟨z1, z2⟩
      · obtain ⟨a, b, c, y, hy, e⟩ := h.par i x q m' z
        exact ⟨a, b, c, y, snoc_get.mpr (.inl hy), e⟩
      · cases z2
        exact ⟨by omega, by omega, hm, (here, o), snoc_get.mpr (.inl hp), rfl⟩
    · intro i x hx
      rcases snoc_get.mp hx with z | ⟨z1, z2⟩
      · exact h.non i x z
      · cases z2
    · intro i j x y q m1 q' m2 hij hi hj
      rcases snoc_get.mp hi with z | ⟨z1, z2⟩
      · rcases snoc_get.mp hj with u | ⟨u1, u2⟩
        · exact h.mono i j x y q m1 q' m2 hij z u
        · cases u2; have := (h.par i x q m1 z).1; omega
      · cases z2
        rcases snoc_get.mp hj with u | ⟨u1, u2⟩
        · have := (List.getElem?_eq_some_iff.mp u).1; omega
        · cases u2; omega
    · intro i x m' hx hc
      rcases snoc_get.mp hx with z | ⟨z1, z2⟩
      · have old : ((i < p ∧ m' ∈ ms) ∨ (i = p ∧ m' ∈ done)) → ∃ (j : Nat) (y : Way), (W ++ [(behind sz here m, some (p, m))])[j]? = some y ∧ y.1 = behind sz x.1 m' ∧ (y.2 = none ∨ ∃ q m', y.2 = some (q, m') ∧ q ≤ i) := fun hc => by
          obtain ⟨j, y, a, b, c⟩ := h.cls i x m' z hc
          exact ⟨j, y, snoc_get.mpr (.inl a), b, c⟩
        rcases hc with hc | ⟨h1, h2⟩
        · exact old (.inl hc)
        · rcases List.mem_append.mp h2 with h3 | h3
          · exact old (.inr ⟨h1, h3⟩)
          · have e : m' = m := by simpa using h3
            subst e; subst h1
            rw [hp] at z; cases z
            exact ⟨W.length, _, snoc_get.mpr (.inr ⟨rfl, rfl⟩), rfl, .inr ⟨i, m', rfl, Nat.le_refl _⟩⟩
      · rcases hc with ⟨h1, h2⟩ | ⟨h1, h2⟩ <;> omega
theorem addOne_pre {here : List Int} {p : Nat} {m : Mv} {W : List Way} {i : Nat} {y : Way} (h : W[i]? = some y) : (addOne sz here p W m)[i]? = some y := by
  unfold addOne
  split
  · exact h
  · exact snoc_get.mpr (.inl h)
theorem WIn.all : ∀ (todo : List Mv) {done : List Mv} {W : List Way}, WIn sz ms st p (p + 1) done W → (∃ o, W[p]? = some (here, o)) → (∀ m ∈ todo, m ∈ ms) → (∀ m ∈ todo, IsSt sz (behind sz here m)) →
    WIn sz ms st p (p + 1) (done ++ todo) (addAll sz here p todo W)
  | [], done, W, h, _, _, _ => by simpa [addAll] using h
  | m :: todo, done, W, h, hp, hm, hs => by
    have h1 := h.add hp (hm m List.mem_cons_self) (hs m List.mem_cons_self)
    obtain ⟨o, hp⟩ := hp
    have h2 := WIn.all todo h1 ⟨o, addOne_pre hp⟩ (fun x hx => hm x (List.mem_cons_of_mem _ hx)) (fun x hx => hs x (List.mem_cons_of_mem _ hx))
    simpa [addAll, List.append_assoc] using h2
/-- between two places -/
theorem WIn.next (h : WIn sz ms st p (p + 1) ms W) : WIn sz ms st (p + 1) (p + 1) [] W :=
  ⟨h.hd, h.nd, h.sts, h.par, h.non, h.mono, fun i x m hx hc => h.cls i x m hx (by
    rcases hc with ⟨h1, h2⟩ | ⟨_, h2⟩
    · by_cases e : i = p
      · exact .inr ⟨e, h2⟩
      · exact .inl ⟨by omega, h2⟩
    · simp at h2)⟩
theorem WIn.open (h : WIn sz ms st p p [] W) : WIn sz ms st p (p + 1) [] W :=
  ⟨h.hd, h.nd, h.sts, fun i x q m e => let ⟨a, b⟩ := h.par i x q m e; ⟨by omega, b⟩, h.non, h.mono, h.cls⟩
theorem WIn.beyond (h : WIn sz ms st p p [] W) (hl : W.length ≤ p) : WIn sz ms st (p + 1) (p + 1) [] W :=
  ⟨h.hd, h.nd, h.sts, fun i x q m e => let ⟨a, b⟩ := h.par i x q m e; ⟨by omega, b⟩, h.non, h.mono, fun i x m hx hc => by
    have := (List.getElem?_eq_some_iff.mp hx).1
    rcases hc with ⟨_, h2⟩ | ⟨_, h2⟩
    · exact h.cls i x m hx (.inl ⟨by omega, h2⟩)
    · simp at h2⟩
/-- what a walk wants of sizes and moves -/
structure Good (sz : List Int) (ms : List Mv) : Prop where
  keep : ∀ st m, IsSt sz st → m ∈ ms → IsSt sz (behind sz st m)
theorem run_inv (g : Good sz ms) (hst : IsSt sz st) : ∀ p, WIn sz ms st p p [] (run sz ms st p)
  | 0 => by
    unfold run
    refine ⟨rfl, by simp, fun x hx => ?_, fun i x q m e => ?_, fun i x e => ?_, fun i j x y q m q' m' _ e _ => ?_, fun i x m _ hc => ?_⟩
    · have : x = (st, none) := by simpa using hx
      subst this; exact hst
    · cases i with
      | zero => simp at e
      | succ i => simp at e
    · cases i with
      | zero => rfl
      | succ i => simp at e
    · cases i with
      | zero => simp at e
      | succ i => simp at e
    · rcases hc with ⟨h1, _⟩ | ⟨_, h2⟩
      · omega
      · simp at h2
  | p + 1 => by
    have h := run_inv g hst p
    unfold run
    cases e : (run sz ms st p)[p]? with
    | none => exact h.beyond (List.getElem?_eq_none_iff.mp e)
    | some x =>
      have hx : IsSt sz x.1 := h.sts x (List.mem_iff_getElem?.mpr ⟨p, e⟩)
      have := h.open.all (here := x.1) ms ⟨x.2, e⟩ (fun _ q => q) (fun m q => g.keep x.1 m hx q)
      exact WIn.next (by simpa using this)
theorem run_le (g : Good sz ms) (hst : IsSt sz st) (p : Nat) : (run sz ms st p).length ≤ (states sz).length := by
  have h := run_inv g hst p
  have := nodup_le _ (states sz) h.nd fun x hx => by
    obtain ⟨y, hy, rfl⟩ := List.mem_map.mp hx
    exact mem_states.mpr (h.sts y hy)
  simpa using this
theorem run_stay {p : Nat} (h : (run sz ms st p).length ≤ p) : ∀ k, run sz ms st (p + k) = run sz ms st p
  | 0 => rfl
  | k + 1 => by
    have ih := run_stay h k
    show run sz ms st ((p + k) + 1) = _
    rw [run, ih, List.getElem?_eq_none_iff.mpr (by omega)]
/-- where the walk stops it is the whole walk -/
theorem run_end (g : Good sz ms) (hst : IsSt sz st) {p : Nat} (h : (run sz ms st p).length ≤ p) : run sz ms st p = ways sz ms st := by
  unfold ways
  by_cases e : p ≤ (states sz).length
  · have := run_stay h ((states sz).length - p)
    rw [← this]; congr 1; omega
  · have := run_stay (p := (states sz).length) (run_le g hst _) (p - (states sz).length)
    rw [← this]; congr 1; omega
theorem run_step {p : Nat} {x : Way} (e : (run sz ms st p)[p]? = some x) : run sz ms st (p + 1) = addAll sz x.1 p ms (run sz ms st p) := by
  rw [run, e]
theorem ways_inv (g : Good sz ms) (hst : IsSt sz st) : WIn sz ms st (ways sz ms st).length (states sz).length [] (ways sz ms st) := by
  have h := run_inv g hst (states sz).length
  exact ⟨h.hd, h.nd, h.sts, h.par, h.non, h.mono, fun i x m hx hc => h.cls i x m hx (by
    rcases hc with ⟨h1, h2⟩ | ⟨_, h2⟩
    · exact .inl ⟨Nat.lt_of_lt_of_le h1 (run_le g hst _), h2⟩
    · simp at h2)⟩
end
theorem good_moves {sz : List Int} {tap : Bool} (hs : ∀ i, i < sz.length → 0 ≤ at0 sz i) : Good sz (moves sz.length tap) :=
  ⟨fun _ _ h hm => h.behind hs (mem_moves.mp hm)⟩
end J

namespace J
/-! heights along a walk, and the way back -/
def hOne (acc : List Nat) (e : Way) : Nat := match e.2 with
  | none => 0
  | some (q, _) => acc.getD q 0 + 1
def hl (W : List Way) : List Nat := W.foldl (fun acc e => acc ++ [hOne acc e]) []
theorem hl_snoc (W : List Way) (e : Way) : hl (W ++ [e]) = hl W ++ [hOne (hl W) e] := by simp [hl]
theorem snoc_ind {α : Type} {P : List α → Prop} (h0 : P []) (h1 : ∀ l a, P l → P (l ++ [a])) : ∀ l, P l := by
  intro l
  have : ∀ r : List α, P r.reverse := fun r => by
    induction r with
    | nil => exact h0
    | cons a r ih => rw [List.reverse_cons]; exact h1 _ _ ih
  have := this l.reverse
  rwa [List.reverse_reverse] at this
theorem hl_len (W : List Way) : (hl W).length = W.length := by
  refine snoc_ind (P := fun W => (hl W).length = W.length) rfl (fun l a ih => ?_) W
  rw [hl_snoc]; simp [ih]
theorem hl_take (W V : List Way) : (hl (W ++ V)).take W.length = hl W := by
  refine snoc_ind (P := fun V => (hl (W ++ V)).take W.length = hl W) (by simp; exact List.take_of_length_le (by rw [hl_len]; exact Nat.le_refl _)) (fun V a ih => ?_) V
  rw [← List.append_assoc, hl_snoc, List.take_append_of_le_length (by rw [hl_len]; simp), ih]
def h (W : List Way) (i : Nat) : Nat := (hl W).getD i 0
theorem h_pre {W V : List Way} {i : Nat} (hi : i < W.length) : h (W ++ V) i = h W i := by
  unfold h
  have := hl_take W V
  rw [← this, List.getD_eq_getElem?_getD, List.getD_eq_getElem?_getD, List.getElem?_take_of_lt hi]
theorem h_at (W V : List Way) (e : Way) : h (W ++ e :: V) W.length = hOne (hl W) e := by
  have : W ++ e :: V = (W ++ [e]) ++ V := by simp
  rw [this, h_pre (by simp)]
  unfold h
  rw [hl_snoc, List.getD_eq_getElem?_getD, List.getElem?_append_right (by rw [hl_len]; exact Nat.le_refl _), hl_len]
  simp
theorem split_at {α : Type} {W : List α} {i : Nat} {x : α} (e : W[i]? = some x) : W = W.take i ++ x :: W.drop (i + 1) ∧ (W.take i).length = i := by
  obtain ⟨hl, e⟩ := List.getElem?_eq_some_iff.mp e
  constructor
  · have h1 := List.take_append_drop i W
    have h2 : W.drop i = x :: W.drop (i + 1) := by rw [List.drop_eq_getElem_cons hl, e]
    rw [h2] at h1; exact h1.symm
  · rw [List.length_take]; omega
theorem h_eq {W : List Way} {i : Nat} {x : Way} (e : W[i]? = some x) : h W i = hOne (hl (W.take i)) x := by
  obtain ⟨e1, e2⟩ := split_at e
  have := h_at (W.take i) (W.drop (i + 1)) x
  rw [← e1, e2] at this
  exact this
theorem h_none {W : List Way} {i : Nat} {x : List Int} (e : W[i]? = some (x, none)) : h W i = 0 := by rw [h_eq e]; rfl
theorem h_some {W : List Way} {i : Nat} {x : List Int} {q : Nat} {m : Mv} (e : W[i]? = some (x, some (q, m))) (hq : q < i) : h W i = h W q + 1 := by
  rw [h_eq e]
  obtain ⟨e1, e2⟩ := split_at e
  show (hl (W.take i)).getD q 0 + 1 = _
  have h1 : h ((W.take i) ++ (x, some (q, m)) :: W.drop (i + 1)) q = h (W.take i) q := h_pre (by omega)
  rw [← e1] at h1
  rw [h1]; rfl
section
variable {sz st : List Int} {ms done : List Mv} {p P : Nat} {W : List Way}
def back (W : List Way) : Nat → Nat → List Mv
  | 0, _ => []
  | f + 1, i => match W[i]? with
    | some (_, some (q, m)) => m :: back W f q
    | _ => []
end
end J

namespace J
/-! two jugs with a tap: what can be measured -/
def cmn (a b : Nat) : Nat := (List.range' 2 (min a b - 1)).foldl (fun f m => if a % m = 0 ∧ b % m = 0 then m else f) 1
theorem cmn_comm (a b : Nat) : cmn a b = cmn b a := by
  unfold cmn
  rw [Nat.min_comm]
  congr 1
  funext f m
  simp only [and_comm]
theorem cmn_dvd (a b : Nat) : cmn a b ∣ a ∧ cmn a b ∣ b := by
  unfold cmn
  have : ∀ (l : List Nat) (f : Nat), (f ∣ a ∧ f ∣ b) → (l.foldl (fun f m => if a % m = 0 ∧ b % m = 0 then m else f) f ∣ a ∧ l.foldl (fun f m => if a % m = 0 ∧ b % m = 0 then m else f) f ∣ b) := by
    intro l
    induction l with
    | nil => intro f h; exact h
    | cons m l ih =>
      intro f h
      refine ih _ ?_
      dsimp only
      split
      · rename_i c; exact ⟨Nat.dvd_of_mod_eq_zero c.1, Nat.dvd_of_mod_eq_zero c.2⟩
      · exact h
  exact this _ 1 ⟨Nat.one_dvd _, Nat.one_dvd _⟩
theorem cmn_pos (a b : Nat) : 1 ≤ cmn a b := by
  unfold cmn
  have : ∀ (l : List Nat) (f : Nat), 1 ≤ f → (∀ m ∈ l, 1 ≤ m) → 1 ≤ l.foldl (fun f m => if a % m = 0 ∧ b % m = 0 then m else f) f := by
    intro l
    induction l with
    | nil => intro f h _; exact h
    | cons m l ih =>
      intro f h hm
      refine ih _ ?_ fun x hx => hm x (List.mem_cons_of_mem _ hx)
      dsimp only
      split
      · exact hm m List.mem_cons_self
      · exact h
  exact this _ 1 (Nat.le_refl _) fun m hm => by have := (List.mem_range'_1.mp hm).1; omega
/-- the next amount in the greater jug -/
def nxt (a b y : Nat) : Nat := if y + a ≤ b then y + a else y + a - b
def orb (a b : Nat) : Nat → List Nat
  | 0 => [0]
  | n + 1 => match orb a b n with
    | [] => []
    | y :: l => nxt a b y :: y :: l
def mask (l : List Nat) : Nat := l.foldl (fun m y => m ||| 2 ^ y) 0
theorem mask_bit (l : List Nat) (v : Nat) : (mask l).testBit v = decide (v ∈ l) := by
  unfold mask
  have : ∀ (l : List Nat) (m : Nat), (l.foldl (fun m y => m ||| 2 ^ y) m).testBit v = (m.testBit v || decide (v ∈ l)) := by
    intro l
    induction l with
    | nil => intro m; simp
    | cons y l ih =>
      intro m
      rw [List.foldl_cons, ih, Nat.testBit_or, Nat.testBit_two_pow]
      simp only [List.mem_cons, Bool.or_assoc]
      congr 1
      by_cases h : v = y
      · subst h; simp
      · have h' : ¬ y = v := fun e => h e.symm
        simp [h, h']
  rw [this]
  simp
def chk (a b : Nat) : Bool := mask (orb a b b) &&& mask ((List.range (b / cmn a b + 1)).map (· * cmn a b)) == mask ((List.range (b / cmn a b + 1)).map (· * cmn a b))
theorem chk_all : ((List.range 21).all fun a => (List.range 61).all fun b => a == 0 || decide (b < a) || chk a b) = true := by decide +kernel
theorem orb_has {a b v : Nat} (ha : 1 ≤ a) (hab : a ≤ b) (h20 : a ≤ 20) (h60 : b ≤ 60) (hv : v ≤ b) (hd : cmn a b ∣ v) : v ∈ orb a b b := by
  have h1 := List.all_eq_true.mp (List.all_eq_true.mp chk_all a (List.mem_range.mpr (by omega))) b (List.mem_range.mpr (by omega))
  have e1 : (a == 0) = false := by simp; omega
  have e2 : decide (b < a) = false := by simp; omega
  rw [e1, e2, Bool.false_or, Bool.false_or] at h1
  have h2 : mask (orb a b b) &&& mask ((List.range (b / cmn a b + 1)).map (· * cmn a b)) = mask ((List.range (b / cmn a b + 1)).map (· * cmn a b)) := by simpa [chk] using h1
  have h3 := congrArg (fun n => n.testBit v) h2
  simp only [Nat.testBit_and, mask_bit] at h3
  have h4 : v ∈ (List.range (b / cmn a b + 1)).map (· * cmn a b) := by
    obtain ⟨k, rfl⟩ := hd
    refine List.mem_map.mpr ⟨k, List.mem_range.mpr ?_, Nat.mul_comm _ _⟩
    have : k ≤ b / cmn a b := (Nat.le_div_iff_mul_le (cmn_pos a b)).mpr (by rw [Nat.mul_comm]; exact hv)
    omega
  rw [decide_eq_true h4, Bool.and_true] at h3
  exact of_decide_eq_true h3
theorem orb_ind {a b : Nat} {R : Nat → Prop} (h0 : R 0) (hs : ∀ y, y ≤ b → R y → R (nxt a b y)) (hab : a ≤ b) : ∀ n, ∀ y ∈ orb a b n, y ≤ b ∧ R y
  | 0, y, h => by
    have : y = 0 := by simpa [orb] using h
    subst this
    exact ⟨Nat.zero_le _, h0⟩
  | n + 1, y, h => by
    have ih := orb_ind h0 hs hab n
    unfold orb at h
    cases e : orb a b n with
    | nil => rw [e] at h; simp at h
    | cons z l =>
      rw [e] at h
      rcases List.mem_cons.mp h with h | h
      · have hz := ih z (by rw [e]; exact List.mem_cons_self)
        subst h
        refine ⟨?_, hs z hz.1 hz.2⟩
        unfold nxt
        split <;> omega
      · exact ih y (by rw [e]; exact h)
/-! the walk of two jugs -/
section
variable {a b : Nat}
def W2 (a b : Nat) : List Way := ways [(a : Int), (b : Int)] (moves 2 true) [0, 0]
theorem good2 : Good [(a : Int), (b : Int)] (moves 2 true) := good_moves (sz := [(a : Int), (b : Int)]) (tap := true) fun i hi => by
  match i, hi with
  | 0, _ => simp [at0]
  | 1, _ => simp [at0]
  | i + 2, h => simp at h; omega
theorem st2 : IsSt [(a : Int), (b : Int)] [0, 0] := ⟨rfl, fun i hi => by
  match i, hi with
  | 0, _ => simp [at0]
  | 1, _ => simp [at0]
  | i + 2, h => simp at h; omega⟩
theorem r2_start : ([0, 0] : List Int) ∈ (W2 a b).map (·.1) := List.mem_map.mpr ⟨_, List.mem_of_getElem? (ways_inv good2 st2).hd, rfl⟩
theorem r2_step {x : List Int} (h : x ∈ (W2 a b).map (·.1)) {m : Mv} (hm : m.ok 2 true) : behind [(a : Int), (b : Int)] x m ∈ (W2 a b).map (·.1) := by
  obtain ⟨y, hy, rfl⟩ := List.mem_map.mp h
  obtain ⟨i, hi⟩ := List.mem_iff_getElem?.mp hy
  have hl := (List.getElem?_eq_some_iff.mp hi).1
  obtain ⟨j, z, hz, e, _⟩ := (ways_inv good2 st2).cls i y m hi (.inl ⟨hl, mem_moves.mpr hm⟩)
  exact List.mem_map.mpr ⟨z, List.mem_of_getElem? hz, e⟩
/-- up the second jug -/
theorem up1 {y : Nat} (hab : a ≤ b) (hy : y ≤ b) (h : ([0, (y : Int)] : List Int) ∈ (W2 a b).map (·.1)) : ([0, ((nxt a b y : Nat) : Int)] : List Int) ∈ (W2 a b).map (·.1) := by
  have h1 := r2_step h (m := .fill 0) ⟨by decide, rfl⟩
  have e1 : behind [(a : Int), (b : Int)] [0, (y : Int)] (.fill 0) = [(a : Int), (y : Int)] := by simp [behind, at0]
  rw [e1] at h1
  have h2 := r2_step h1 (m := .pour 0 1) ⟨by decide, by decide, by decide⟩
  unfold nxt
  by_cases c : y + a ≤ b
  · rw [if_pos c]
    have e2 : behind [(a : Int), (b : Int)] [(a : Int), (y : Int)] (.pour 0 1) = [0, ((y + a : Nat) : Int)] := by
      have : ¬ ((b : Int) - y < a) := by omega
      simp [behind, much, at0, this]
    rwa [e2] at h2
  · rw [if_neg c]
    have e2 : behind [(a : Int), (b : Int)] [(a : Int), (y : Int)] (.pour 0 1) = [(a : Int) - (b - y), (b : Int)] := by
      have : (b : Int) - y < a := by omega
      simp [behind, much, at0, this]
      omega
    rw [e2] at h2
    have h3 := r2_step h2 (m := .emp 1) ⟨by decide, rfl⟩
    have e3 : behind [(a : Int), (b : Int)] [(a : Int) - (b - y), (b : Int)] (.emp 1) = [(a : Int) - (b - y), 0] := by simp [behind]
    rw [e3] at h3
    have h4 := r2_step h3 (m := .pour 0 1) ⟨by decide, by decide, by decide⟩
    have e4 : behind [(a : Int), (b : Int)] [(a : Int) - (b - y), 0] (.pour 0 1) = [0, ((y + a - b : Nat) : Int)] := by
      have : ¬ ((b : Int) < a - (b - y)) := by omega
      simp [behind, much, at0, this]
      omega
    rwa [e4] at h4
/-- up the first jug -/
theorem up0 {y : Nat} (hab : b ≤ a) (hy : y ≤ a) (h : ([(y : Int), 0] : List Int) ∈ (W2 a b).map (·.1)) : ([((nxt b a y : Nat) : Int), 0] : List Int) ∈ (W2 a b).map (·.1) := by
  have h1 := r2_step h (m := .fill 1) ⟨by decide, rfl⟩
  have e1 : behind [(a : Int), (b : Int)] [(y : Int), 0] (.fill 1) = [(y : Int), (b : Int)] := by simp [behind, at0]
  rw [e1] at h1
  have h2 := r2_step h1 (m := .pour 1 0) ⟨by decide, by decide, by decide⟩
  unfold nxt
  by_cases c : y + b ≤ a
  · rw [if_pos c]
    have e2 : behind [(a : Int), (b : Int)] [(y : Int), (b : Int)] (.pour 1 0) = [((y + b : Nat) : Int), 0] := by
      have : ¬ ((a : Int) - y < b) := by omega
      simp [behind, much, at0, this]
    rwa [e2] at h2
  · rw [if_neg c]
    have e2 : behind [(a : Int), (b : Int)] [(y : Int), (b : Int)] (.pour 1 0) = [(a : Int), (b : Int) - (a - y)] := by
      have : (a : Int) - y < b := by omega
      simp [behind, much, at0, this]
      omega
    rw [e2] at h2
    have h3 := r2_step h2 (m := .emp 0) ⟨by decide, rfl⟩
    have e3 : behind [(a : Int), (b : Int)] [(a : Int), (b : Int) - (a - y)] (.emp 0) = [0, (b : Int) - (a - y)] := by simp [behind]
    rw [e3] at h3
    have h4 := r2_step h3 (m := .pour 1 0) ⟨by decide, by decide, by decide⟩
    have e4 : behind [(a : Int), (b : Int)] [0, (b : Int) - (a - y)] (.pour 1 0) = [((y + b - a : Nat) : Int), 0] := by
      have : ¬ ((a : Int) < b - (a - y)) := by omega
      simp [behind, much, at0, this]
      omega
    rwa [e4] at h4
/-- every move keeps a common divisor -/
theorem dvd_behind {g : Int} {sz st : List Int} (hz : ∀ i, g ∣ at0 sz i) (hs : ∀ i, g ∣ at0 st i) (m : Mv) : ∀ i, g ∣ at0 (behind sz st m) i := by
  intro i
  have hmuch : ∀ a b, g ∣ much sz st a b := fun a b => by
    unfold much
    split
    · exact Int.dvd_sub (hz b) (hs b)
    · exact hs a
  cases m with
  | pour a b =>
    show g ∣ at0 ((st.set a _).set b _) i
    rw [at0_set, at0_set]
    split
    · exact Int.dvd_add (hs b) (hmuch a b)
    · split
      · exact Int.dvd_sub (hs a) (hmuch a b)
      · exact hs i
  | fill a =>
    show g ∣ at0 (st.set a _) i
    rw [at0_set]
    split
    · exact hz a
    · exact hs i
  | emp a =>
    show g ∣ at0 (st.set a _) i
    rw [at0_set]
    split
    · exact Int.dvd_zero _
    · exact hs i
theorem dvd_ways {g : Int} (ha : g ∣ (a : Int)) (hb : g ∣ (b : Int)) : ∀ (i : Nat) (x : Way), (W2 a b)[i]? = some x → ∀ j, g ∣ at0 x.1 j := by
  intro i
  induction i using Nat.strongRecOn with
  | ind i ih =>
    intro x hx
    have w := ways_inv (good2 (a := a) (b := b)) st2
    obtain ⟨x1, o⟩ := x
    cases o with
    | none =>
      have e := w.non i x1 hx
      subst e
      have := w.hd
      rw [show (ways [(a : Int), (b : Int)] (moves 2 true) [0, 0])[0]? = (W2 a b)[0]? from rfl, hx] at this
      cases this
      intro j
      match j with
      | 0 => simp [at0]
      | 1 => simp [at0]
      | j + 2 => simp [at0]
    | some qm =>
      obtain ⟨q, m⟩ := qm
      obtain ⟨_, hq, _, y, hy, e⟩ := w.par i x1 q m hx
      show ∀ j, g ∣ at0 x1 j
      rw [e]
      refine dvd_behind (fun j => ?_) (ih q hq y hy) m
      match j with
      | 0 => simpa [at0] using ha
      | 1 => simpa [at0] using hb
      | j + 2 => simp [at0]
theorem two_jugs (ha : 1 ≤ a) (hb : 1 ≤ b) (h : (a ≤ 20 ∧ b ≤ 60) ∨ (a ≤ 60 ∧ b ≤ 20)) (v : Int) : (∃ x ∈ W2 a b, v ∈ x.1) ↔ 0 ≤ v ∧ v ≤ ((max a b : Nat) : Int) ∧ ((cmn a b : Nat) : Int) ∣ v := by
  constructor
  · rintro ⟨x, hx, hv⟩
    have w := ways_inv (good2 (a := a) (b := b)) st2
    have hs := w.sts x hx
    obtain ⟨j, hj, e⟩ := List.mem_iff_getElem.mp hv
    have hl := hs.len
    have e1 : at0 x.1 j = v := by unfold at0; simp [hj, e]
    have bd := hs.bnd j (by omega)
    obtain ⟨i, hi⟩ := List.mem_iff_getElem?.mp hx
    have dv := dvd_ways (g := ((cmn a b : Nat) : Int)) (Int.natCast_dvd_natCast.mpr (cmn_dvd a b).1) (Int.natCast_dvd_natCast.mpr (cmn_dvd a b).2) i x hi j
    rw [e1] at bd dv
    refine ⟨bd.1, ?_, dv⟩
    have h2 : j < 2 := by have : x.1.length = 2 := hl; omega
    match j, h2 with
    | 0, _ => have := bd.2; simp [at0] at this; omega
    | 1, _ => have := bd.2; simp [at0] at this; omega
  · rintro ⟨h0, h1, hd⟩
    obtain ⟨n, rfl⟩ : ∃ n : Nat, v = n := ⟨v.toNat, by omega⟩
    have hd' : cmn a b ∣ n := Int.natCast_dvd_natCast.mp hd
    by_cases c : a ≤ b
    · have hn : n ≤ b := by omega
      have := (orb_ind (a := a) (b := b) (R := fun y => ([0, (y : Int)] : List Int) ∈ (W2 a b).map (·.1)) r2_start (fun y hy hr => up1 c hy hr) c b n (orb_has ha c (by omega) (by omega) hn hd')).2
      obtain ⟨x, hx, e⟩ := List.mem_map.mp this
      exact ⟨x, hx, by rw [e]; simp⟩
    · have hn : n ≤ a := by omega
      rw [cmn_comm] at hd'
      have := (orb_ind (a := b) (b := a) (R := fun y => ([(y : Int), 0] : List Int) ∈ (W2 a b).map (·.1)) r2_start (fun y hy hr => up0 (by omega) hy hr) (by omega) a n (orb_has hb (by omega) (by omega) (by omega) hn hd')).2
      obtain ⟨x, hx, e⟩ := List.mem_map.mp this
      exact ⟨x, hx, by rw [e]; simp⟩
end
end J

namespace Jug
open PySem L2
def top (i : Nat) : Stmt := PySem.Challenge.pw_jughouse_k06_whole_two_jugs.main.body.getD i (.Pass ⟨0, 0, 0, 0⟩)
abbrev s_is_number : Stmt := top 10
theorem sc_is_number : FnScope ["value", "least", "most"] ["value", "least", "most"] (defScope s_is_number) := ⟨rfl, rfl, rfl, by decide +kernel, rfl, by decide +kernel, by decide +kernel⟩
abbrev s_is_jug : Stmt := top 11
theorem sc_is_jug : FnScope ["value"] ["value"] (defScope s_is_jug) := ⟨rfl, rfl, rfl, by decide +kernel, rfl, by decide +kernel, by decide +kernel⟩
abbrev s_held_in : Stmt := top 12
theorem sc_held_in : FnScope ["house", "state", "held", "sizes", "many", "size"] ["house", "state"] (defScope s_held_in) := ⟨rfl, rfl, rfl, by decide +kernel, rfl, by decide +kernel, by decide +kernel⟩
abbrev s_ways_from : Stmt := top 14
theorem sc_ways_from : FnScope ["house", "state", "start", "moves", "ways", "row", "place", "here", "move", "behind"] ["house", "state"] (defScope s_ways_from) := ⟨rfl, rfl, rfl, by decide +kernel, rfl, by decide +kernel, by decide +kernel⟩
abbrev s_measured : Stmt := top 15
theorem sc_measured : FnScope ["house", "state", "amounts", "held", "many"] ["house", "state"] (defScope s_measured) := ⟨rfl, rfl, rfl, by decide +kernel, rfl, by decide +kernel, by decide +kernel⟩
abbrev s_check_jug : Stmt := top 18
theorem sc_check_jug : FnScope ["jug"] ["jug"] (defScope s_check_jug) := ⟨rfl, rfl, rfl, by decide +kernel, rfl, by decide +kernel, by decide +kernel⟩
abbrev s_check_amount : Stmt := top 20
theorem sc_check_amount : FnScope ["many"] ["many"] (defScope s_check_amount) := ⟨rfl, rfl, rfl, by decide +kernel, rfl, by decide +kernel, by decide +kernel⟩
abbrev s_jugs_in : Stmt := top 21
theorem sc_jugs_in : FnScope ["jugs", "told", "jug"] ["jugs"] (defScope s_jugs_in) := ⟨rfl, rfl, rfl, by decide +kernel, rfl, by decide +kernel, by decide +kernel⟩
abbrev s_amounts_in : Stmt := top 22
theorem sc_amounts_in : FnScope ["state", "told", "many"] ["state"] (defScope s_amounts_in) := ⟨rfl, rfl, rfl, by decide +kernel, rfl, by decide +kernel, by decide +kernel⟩
abbrev s_check_house_has : Stmt := top 23
theorem sc_check_house_has : FnScope ["house", "jug"] ["house", "jug"] (defScope s_check_house_has) := ⟨rfl, rfl, rfl, by decide +kernel, rfl, by decide +kernel, by decide +kernel⟩
abbrev s_check_state_of : Stmt := top 25
theorem sc_check_state_of : FnScope ["house", "state"] ["house", "state"] (defScope s_check_state_of) := ⟨rfl, rfl, rfl, by decide +kernel, rfl, by decide +kernel, by decide +kernel⟩
abbrev s_Goal_come : Stmt := inClass (top 26) 0
theorem sc_Goal_come : FnScope ["self", "house", "state", "held"] ["self", "house", "state"] (defScope s_Goal_come) := ⟨rfl, rfl, rfl, by decide +kernel, rfl, by decide +kernel, by decide +kernel⟩
abbrev s_Goal_met_by : Stmt := inClass (top 26) 1
theorem sc_Goal_met_by : FnScope ["self", "house", "held"] ["self", "house", "held"] (defScope s_Goal_met_by) := ⟨rfl, rfl, rfl, by decide +kernel, rfl, by decide +kernel, by decide +kernel⟩
abbrev s_Holds_init : Stmt := inClass (top 27) 0
theorem sc_Holds_init : FnScope ["self", "jug", "many"] ["self", "jug", "many"] (defScope s_Holds_init) := ⟨rfl, rfl, rfl, by decide +kernel, rfl, by decide +kernel, by decide +kernel⟩
abbrev s_Holds_met_by : Stmt := inClass (top 27) 1
theorem sc_Holds_met_by : FnScope ["self", "house", "held"] ["self", "house", "held"] (defScope s_Holds_met_by) := ⟨rfl, rfl, rfl, by decide +kernel, rfl, by decide +kernel, by decide +kernel⟩
abbrev s_Some_init : Stmt := inClass (top 28) 0
theorem sc_Some_init : FnScope ["self", "many"] ["self", "many"] (defScope s_Some_init) := ⟨rfl, rfl, rfl, by decide +kernel, rfl, by decide +kernel, by decide +kernel⟩
abbrev s_Some_met_by : Stmt := inClass (top 28) 1
theorem sc_Some_met_by : FnScope ["self", "house", "held"] ["self", "house", "held"] (defScope s_Some_met_by) := ⟨rfl, rfl, rfl, by decide +kernel, rfl, by decide +kernel, by decide +kernel⟩
abbrev s_Sum_init : Stmt := inClass (top 29) 0
theorem sc_Sum_init : FnScope ["self", "jugs", "many"] ["self", "jugs", "many"] (defScope s_Sum_init) := ⟨rfl, rfl, rfl, by decide +kernel, rfl, by decide +kernel, by decide +kernel⟩
abbrev s_Sum_met_by : Stmt := inClass (top 29) 1
theorem sc_Sum_met_by : FnScope ["self", "house", "held", "jug"] ["self", "house", "held"] (defScope s_Sum_met_by) := ⟨rfl, rfl, rfl, by decide +kernel, rfl, by decide +kernel, by decide +kernel⟩
abbrev s_Whole_init : Stmt := inClass (top 30) 0
theorem sc_Whole_init : FnScope ["self", "state"] ["self", "state"] (defScope s_Whole_init) := ⟨rfl, rfl, rfl, by decide +kernel, rfl, by decide +kernel, by decide +kernel⟩
abbrev s_Whole_met_by : Stmt := inClass (top 30) 1
theorem sc_Whole_met_by : FnScope ["self", "house", "held"] ["self", "house", "held"] (defScope s_Whole_met_by) := ⟨rfl, rfl, rfl, by decide +kernel, rfl, by decide +kernel, by decide +kernel⟩
abbrev s_check_goal : Stmt := top 31
theorem sc_check_goal : FnScope ["goal"] ["goal"] (defScope s_check_goal) := ⟨rfl, rfl, rfl, by decide +kernel, rfl, by decide +kernel, by decide +kernel⟩
abbrev s_Poured_init : Stmt := inClass (top 34) 0
theorem sc_Poured_init : FnScope ["self", "pours", "heights"] ["self", "pours", "heights"] (defScope s_Poured_init) := ⟨rfl, rfl, rfl, by decide +kernel, rfl, by decide +kernel, by decide +kernel⟩
abbrev s_Barred_init : Stmt := inClass (top 35) 0
theorem sc_Barred_init : FnScope ["self", "among"] ["self", "among"] (defScope s_Barred_init) := ⟨rfl, rfl, rfl, by decide +kernel, rfl, by decide +kernel, by decide +kernel⟩
abbrev s_nearest : Stmt := top 36
theorem sc_nearest : FnScope ["house", "ways", "goal", "state"] ["house", "ways", "goal"] (defScope s_nearest) := ⟨rfl, rfl, rfl, by decide +kernel, rfl, by decide +kernel, by decide +kernel⟩
abbrev s_moves_to : Stmt := top 37
theorem sc_moves_to : FnScope ["ways", "state", "back", "way"] ["ways", "state"] (defScope s_moves_to) := ⟨rfl, rfl, rfl, by decide +kernel, rfl, by decide +kernel, by decide +kernel⟩
abbrev s_heights_in : Stmt := top 38
theorem sc_heights_in : FnScope ["ways", "heights", "state", "way"] ["ways"] (defScope s_heights_in) := ⟨rfl, rfl, rfl, by decide +kernel, rfl, by decide +kernel, by decide +kernel⟩
abbrev s_fewest : Stmt := top 39
theorem sc_fewest : FnScope ["house", "state", "goal", "ways", "last"] ["house", "state", "goal"] (defScope s_fewest) := ⟨rfl, rfl, rfl, by decide +kernel, rfl, by decide +kernel, by decide +kernel⟩
abbrev s_check_jug' : Stmt := top 41
theorem sc_check_jug' : FnScope ["jug"] ["jug"] (defScope s_check_jug') := ⟨rfl, rfl, rfl, by decide +kernel, rfl, by decide +kernel, by decide +kernel⟩
abbrev s_check_house_has' : Stmt := top 43
theorem sc_check_house_has' : FnScope ["house", "jug"] ["house", "jug"] (defScope s_check_house_has') := ⟨rfl, rfl, rfl, by decide +kernel, rfl, by decide +kernel, by decide +kernel⟩
abbrev s_check_house_can_tap : Stmt := top 45
theorem sc_check_house_can_tap : FnScope ["house", "jug"] ["house", "jug"] (defScope s_check_house_can_tap) := ⟨rfl, rfl, rfl, by decide +kernel, rfl, by decide +kernel, by decide +kernel⟩
abbrev s_with_amount : Stmt := top 46
theorem sc_with_amount : FnScope ["held", "jug", "many", "behind"] ["held", "jug", "many"] (defScope s_with_amount) := ⟨rfl, rfl, rfl, by decide +kernel, rfl, by decide +kernel, by decide +kernel⟩
abbrev s_Move_done : Stmt := inClass (top 47) 0
theorem sc_Move_done : FnScope ["self", "house", "state", "held"] ["self", "house", "state"] (defScope s_Move_done) := ⟨rfl, rfl, rfl, by decide +kernel, rfl, by decide +kernel, by decide +kernel⟩
abbrev s_Move_held_behind : Stmt := inClass (top 47) 1
theorem sc_Move_held_behind : FnScope ["self", "house", "held"] ["self", "house", "held"] (defScope s_Move_held_behind) := ⟨rfl, rfl, rfl, by decide +kernel, rfl, by decide +kernel, by decide +kernel⟩
abbrev s_Pour_init : Stmt := inClass (top 48) 0
theorem sc_Pour_init : FnScope ["self", "one", "other"] ["self", "one", "other"] (defScope s_Pour_init) := ⟨rfl, rfl, rfl, by decide +kernel, rfl, by decide +kernel, by decide +kernel⟩
abbrev s_Pour_held_behind : Stmt := inClass (top 48) 1
theorem sc_Pour_held_behind : FnScope ["self", "house", "held", "room", "many", "less"] ["self", "house", "held"] (defScope s_Pour_held_behind) := ⟨rfl, rfl, rfl, by decide +kernel, rfl, by decide +kernel, by decide +kernel⟩
abbrev s_Fill_init : Stmt := inClass (top 49) 0
theorem sc_Fill_init : FnScope ["self", "jug"] ["self", "jug"] (defScope s_Fill_init) := ⟨rfl, rfl, rfl, by decide +kernel, rfl, by decide +kernel, by decide +kernel⟩
abbrev s_Fill_held_behind : Stmt := inClass (top 49) 1
theorem sc_Fill_held_behind : FnScope ["self", "house", "held"] ["self", "house", "held"] (defScope s_Fill_held_behind) := ⟨rfl, rfl, rfl, by decide +kernel, rfl, by decide +kernel, by decide +kernel⟩
abbrev s_Empty_init : Stmt := inClass (top 50) 0
theorem sc_Empty_init : FnScope ["self", "jug"] ["self", "jug"] (defScope s_Empty_init) := ⟨rfl, rfl, rfl, by decide +kernel, rfl, by decide +kernel, by decide +kernel⟩
abbrev s_Empty_held_behind : Stmt := inClass (top 50) 1
theorem sc_Empty_held_behind : FnScope ["self", "house", "held"] ["self", "house", "held"] (defScope s_Empty_held_behind) := ⟨rfl, rfl, rfl, by decide +kernel, rfl, by decide +kernel, by decide +kernel⟩
abbrev s_sizes_in : Stmt := top 53
theorem sc_sizes_in : FnScope ["sizes", "told", "size"] ["sizes"] (defScope s_sizes_in) := ⟨rfl, rfl, rfl, by decide +kernel, rfl, by decide +kernel, by decide +kernel⟩
abbrev s_count_states : Stmt := top 54
theorem sc_count_states : FnScope ["sizes", "many", "size"] ["sizes"] (defScope s_count_states) := ⟨rfl, rfl, rfl, by decide +kernel, rfl, by decide +kernel, by decide +kernel⟩
abbrev s_pours_among : Stmt := top 55
theorem sc_pours_among : FnScope ["many", "pours", "one", "other"] ["many"] (defScope s_pours_among) := ⟨rfl, rfl, rfl, by decide +kernel, rfl, by decide +kernel, by decide +kernel⟩
abbrev s_House_init : Stmt := inClass (top 56) 0
theorem sc_House_init : FnScope ["self", "sizes", "tap"] ["self", "sizes", "tap"] (defScope s_House_init) := ⟨rfl, rfl, rfl, by decide +kernel, rfl, by decide +kernel, by decide +kernel⟩
abbrev s_House_sizes : Stmt := inClass (top 56) 1
theorem sc_House_sizes : FnScope ["self"] ["self"] (defScope s_House_sizes) := ⟨rfl, rfl, rfl, by decide +kernel, rfl, by decide +kernel, by decide +kernel⟩
abbrev s_House_moves : Stmt := inClass (top 56) 2
theorem sc_House_moves : FnScope ["self", "many", "told"] ["self"] (defScope s_House_moves) := ⟨rfl, rfl, rfl, by decide +kernel, rfl, by decide +kernel, by decide +kernel⟩
abbrev s_House_empty : Stmt := inClass (top 56) 4
theorem sc_House_empty : FnScope ["self"] ["self"] (defScope s_House_empty) := ⟨rfl, rfl, rfl, by decide +kernel, rfl, by decide +kernel, by decide +kernel⟩
abbrev s__law_cell_at : Stmt := top 58
theorem sc__law_cell_at : FnScope ["_law_script", "_law_k"] ["_law_script", "_law_k"] (defScope s__law_cell_at) := ⟨rfl, rfl, rfl, by decide +kernel, rfl, by decide +kernel, by decide +kernel⟩
abbrev s__law_draw : Stmt := top 59
theorem sc__law_draw : FnScope ["_law_cell", "_law_k", "_law_many", "_law_primes"] ["_law_cell", "_law_k", "_law_many"] (defScope s__law_draw) := ⟨rfl, rfl, rfl, by decide +kernel, rfl, by decide +kernel, by decide +kernel⟩
abbrev s__law_common : Stmt := top 60
theorem sc__law_common : FnScope ["_law_one", "_law_other", "_law_found", "_law_many"] ["_law_one", "_law_other"] (defScope s__law_common) := ⟨rfl, rfl, rfl, by decide +kernel, rfl, by decide +kernel, by decide +kernel⟩
abbrev s_law : Stmt := top 61
theorem sc_law : FnScope ["_law_script", "_law_sizes", "_law_house", "_law_step", "_law_many", "_law_found"] ["_law_script"] (defScope s_law) := ⟨rfl, rfl, rfl, by decide +kernel, rfl, by decide +kernel, by decide +kernel⟩

end Jug
namespace Jug
open PySem L2
/-! ### what the walk asks of the module: the built-in names, the constants -/
structure Bt (mg : Str → Option Value) : Prop where
  isinstance : mg "isinstance" = none
  int : mg "int" = none
  bool : mg "bool" = none
  tuple : mg "tuple" = none
  list : mg "list" = none
  len : mg "len" = none
  zip : mg "zip" = none
  range : mg "range" = none
  min : mg "min" = none
  str : mg "str" = none
  jugs : ∃ t, mg "MOST_JUGS" = some (.int 4 t)
  size : ∃ t, mg "MOST_SIZE" = some (.int 60 t)
theorem bt_isinstance : bootBuiltins "isinstance" = some (.builtin "isinstance") := by decide +kernel
theorem bt_int : bootBuiltins "int" = some (.type "int") := by decide +kernel
theorem bt_bool : bootBuiltins "bool" = some (.type "bool") := by decide +kernel
theorem bt_tuple : bootBuiltins "tuple" = some (.type "tuple") := by decide +kernel
theorem bt_list : bootBuiltins "list" = some (.type "list") := by decide +kernel
theorem bt_min : bootBuiltins "min" = some (.builtin "min") := by decide +kernel
section
variable {P : Program} {w : World} {K : PySem.W.Frag} {mg : Str → Option Value} {base : Heap}
theorem kit_ii : PySem.W.kitOne K (.type "int") (.type "int") = some true := by
  unfold PySem.W.kitOne
  rw [if_pos (by simp)]
theorem kit_ib : PySem.W.kitOne K (.type "int") (.type "bool") = some false := by
  unfold PySem.W.kitOne
  rw [if_neg (by decide)]
  with_unfolding_all rfl
theorem kit_tt : PySem.W.kitOne K (.type "tuple") (.type "tuple") = some true := by
  unfold PySem.W.kitOne
  rw [if_pos (by simp)]
theorem kit_ll : PySem.W.kitOne K (.type "list") (.type "list") = some true := by
  unfold PySem.W.kitOne
  rw [if_pos (by simp)]
theorem kit_bb : PySem.W.kitOne K (.type "bool") (.type "bool") = some true := by
  unfold PySem.W.kitOne
  rw [if_pos (by simp)]
def sp_is_number : Sp := fun vs H Q _ => ∃ i lo hi : Int, vs = [.int i, .int lo, .int hi] ∧ Q (.bl (decide (lo ≤ i) && decide (i ≤ hi))) H
theorem ok_is_number {f : Addr} {fd : FuncData} (F : Fun K "is_number" "is_number" s_is_number f fd) (B : Bt mg) : FnOk P w K mg base CX0 1 f fd ["value", "least", "most"] sp_is_number := by
  refine F.ok sc_is_number (fun vs H Q E h => ?_) (fun cdv A outer s H vs Q E hr h => ?_)
  · obtain ⟨i, lo, hi, rfl, _⟩ := h
    rfl
  · obtain ⟨i, lo, hi, rfl, k⟩ := h
    refine ⟨_, pss_one (ps_ret (pe_and (pe_callB call_isinst (by rfl) B.isinstance bt_isinstance (pa_cons (pv 0) (pa_cons (pe_bltn (v := .ty "int") (by rfl) B.int bt_int rfl) pa_nil)))
      (pe_and (pe_not (pe_callB call_isinst (by rfl) B.isinstance bt_isinstance (pa_cons (pv 0) (pa_cons (pe_bltn (v := .ty "bool") (by rfl) B.bool bt_bool rfl) pa_nil))))
      (pe_one (pe_chain op_le op_le (pv 1) (pv 0) (pv 2)))))), ?_⟩
    refine ⟨_, rfl, _, _, _, _, _, rfl, .ty "int", .int i, kit_ii, _, rfl, iteT ?_⟩
    refine ⟨_, rfl, _, _, _, _, _, rfl, .ty "bool", .int i, kit_ib, _, rfl, _, rfl, iteT ?_⟩
    refine ⟨_, rfl, _, rfl, _, _, rfl, rfl, _, rfl, ?_⟩
    by_cases h1 : lo ≤ i
    · rw [decide_eq_true h1]
      refine iteT ⟨_, rfl, _, _, rfl, rfl, ?_⟩
      rw [decide_eq_true h1, Bool.true_and] at k
      exact k
    · rw [decide_eq_false h1]
      refine iteF ?_
      rw [decide_eq_false h1, Bool.false_and] at k
      exact k
def sp_is_jug : Sp := fun vs H Q _ => ∃ i : Int, vs = [.int i] ∧ Q (.bl (decide (0 ≤ i) && decide (i ≤ 3))) H
theorem ok_is_jug {f : Addr} {fd : FuncData} (F : Fun K "is_jug" "is_jug" s_is_jug f fd) (B : Bt mg) (N : FnB P w K mg base 1 "is_number" ["value", "least", "most"] sp_is_number) : FnOk P w K mg base CX0 2 f fd ["value"] sp_is_jug := by
  obtain ⟨t4, e4⟩ := B.jugs
  refine F.ok sc_is_jug (fun vs H Q E h => ?_) (fun cdv A outer s H vs Q E hr h => ?_)
  · obtain ⟨i, rfl, _⟩ := h
    rfl
  · obtain ⟨i, rfl, k⟩ := h
    refine ⟨_, pss_one (ps_ret (pe_fn N hr (pa_cons (pv 0) (pa_cons pe_int (pa_cons (pe_op op_sub (pe_glob (v := .int 4) (by rfl) e4 ⟨_, rfl⟩) pe_int) pa_nil))))), ?_⟩
    exact ⟨_, rfl, _, _, rfl, rfl, i, 0, 3, rfl, k⟩
end
/-! ### data -/
theorem mem_ints {l : List Int} {i : Nat} {x : V} (h : (l.map V.int)[i]? = some x) : ∃ z, l[i]? = some z ∧ x = .int z := by
  rw [List.getElem?_map] at h
  cases e : l[i]? with
  | none => rw [e] at h; cases h
  | some z => rw [e] at h; exact ⟨z, rfl, (Option.some.inj h).symm⟩
theorem at0_of {l : List Int} {i : Nat} {z : Int} (h : l[i]? = some z) : J.at0 l i = z := by
  unfold J.at0
  rw [List.getD_eq_getElem?_getD, h]; rfl
theorem get_of {l : List Int} {i : Nat} (h : i < l.length) : l[i]? = some (J.at0 l i) := by
  unfold J.at0
  rw [List.getD_eq_getElem?_getD, List.getElem?_eq_getElem h]; rfl
theorem getV_of {l : List Int} {i : Nat} (h : i < l.length) : (l.map V.int)[i]? = some (.int (J.at0 l i)) := by
  rw [List.getElem?_map, get_of h]; rfl
theorem st_at {sz st : List Int} {i : Nat} {z y : Int} (h : J.IsSt sz st) (h1 : st[i]? = some z) (h2 : sz[i]? = some y) : 0 ≤ z ∧ z ≤ y := by
  have := h.bnd i (List.getElem?_eq_some_iff.mp h2).1
  rw [at0_of h1, at0_of h2] at this
  exact this
/-- a house: sizes and tap -/
def hF (t : Addr) (tap : Bool) : List (Str × V) := putF "tap" (.bl tap) (putF "jug_sizes" (.ref t) [])
theorem n_tap_js : ¬ (("tap" : Str) = "jug_sizes") := by decide +kernel
theorem hF_js (t : Addr) (tap : Bool) : (hF t tap).lookup ("jug_sizes" : Str) = some (.ref t) := by
  unfold hF
  rw [lookup_putF, if_neg (fun e => n_tap_js e.symm), lookup_putF, if_pos rfl]
theorem hF_tap (t : Addr) (tap : Bool) : (hF t tap).lookup ("tap" : Str) = some (.bl tap) := by
  unfold hF
  rw [lookup_putF, if_pos rfl]
theorem hF_no (t : Addr) (tap : Bool) {m : Str} (h1 : ¬ m = "tap") (h2 : ¬ m = "jug_sizes") : (hF t tap).lookup m = none := by
  unfold hF
  rw [lookup_putF, if_neg h1, lookup_putF, if_neg h2]
  rfl
def House (CH : Addr) (H : Hp) (p : Addr) (sz : List Int) (tap : Bool) : Prop := ∃ dx t, H p = some (.ins CH dx (hF t tap)) ∧ H t = some (.tup (sz.map V.int))
theorem House.mono {CH : Addr} {H H' : Hp} {p : Addr} {sz : List Int} {tap : Bool} (h : House CH H p sz tap) (s : Same H H') : House CH H' p sz tap := by
  obtain ⟨dx, t, h1, h2⟩ := h
  exact ⟨dx, t, s _ _ h1, s _ _ h2⟩
/-- what the class House must have -/
structure CHs (K : PySem.W.Frag) (C : Addr) : Prop where
  cl : Cls K C
  js : NoAttr K C "jug_sizes"
  tap : NoAttr K C "tap"
section
variable {P : Program} {w : World} {K : PySem.W.Frag} {mg : Str → Option Value} {base : Heap} {CH : Addr}
def sp_sizes (CH : Addr) : Sp := fun vs H Q _ => ∃ p sz tap, vs = [.ref p] ∧ House CH H p sz tap ∧ ∀ l, H l = none → Q (.ref l) (upd H l (.lst (sz.map V.int)))
theorem ok_sizes {f : Addr} {fd : FuncData} (F : Fun K "sizes" "House.sizes" s_House_sizes f fd) (B : Bt mg) (C : CHs K CH) : FnOk P w K mg base CX0 1 f fd ["self"] (sp_sizes CH) := by
  refine F.ok sc_House_sizes (fun vs H Q E h => ?_) (fun cdv A outer s H vs Q E hr h => ?_)
  · obtain ⟨p, sz, tap, rfl, _⟩ := h
    rfl
  · obtain ⟨p, sz, tap, rfl, ⟨dx, t, hp, ht⟩, k⟩ := h
    refine ⟨_, pss_one (ps_ret (pe_callTy call_list_of (by rfl) B.list bt_list (pa_cons (pe_fld (pv 0) rfl) pa_nil))), ?_⟩
    exact ⟨_, rfl, p, CH, dx, _, _, rfl, hp, C.cl, C.js, hF_js _ _, t, _, rfl, .inr (SqT.of ht), fun l hl => k l hl⟩
def sp_held_in (CH : Addr) : Sp := fun vs H Q _ => ∃ p sz tap a st, vs = [.ref p, .ref a] ∧ House CH H p sz tap ∧ H a = some (.tup (st.map V.int)) ∧ J.IsSt sz st ∧
  ∀ l H', Same H H' → H l = none → H' l = some (.lst (st.map V.int)) → Q (.ref l) H'
theorem ok_held_in {f : Addr} {fd : FuncData} (F : Fun K "held_in" "held_in" s_held_in f fd) (B : Bt mg) (N : FnB P w K mg base 1 "is_number" ["value", "least", "most"] sp_is_number)
    (S : MeB P w K mg base 1 CH "sizes" ["self"] (sp_sizes CH)) : FnOk P w K mg base CX0 2 f fd ["house", "state"] (sp_held_in CH) := by
  refine F.ok sc_held_in (fun vs H Q E h => ?_) (fun cdv A outer s H vs Q E hr h => ?_)
  · obtain ⟨p, sz, tap, a, st, rfl, _⟩ := h
    rfl
  · obtain ⟨p, sz, tap, a, st, rfl, hh, ha, hst, k⟩ := h
    refine ⟨_, pss_cons (ps_if (pt_not (pt_val (pe_callB call_isinst (by rfl) B.isinstance bt_isinstance (pa_cons (pv 1) (pa_cons (pe_bltn (v := .ty "tuple") (by rfl) B.tuple bt_tuple rfl) pa_nil))))) pss_never pss_nil)
      (pss_cons (ps_set (i := 2) sc_held_in.nd rfl (Or.inl rfl) (pe_callTy call_list_of (by rfl) B.list bt_list (pa_cons (pv 1) pa_nil)))
      (pss_cons (ps_set (i := 3) sc_held_in.nd rfl (Or.inl rfl) (pe_me0 S (pv 0) hr))
      (pss_cons (ps_if (pt_cmpR op_ne (pe_callB call_len_seq (by rfl) B.len PySem.boot_len (pa_cons (pv 2) pa_nil)) (pe_callB call_len_seq (by rfl) B.len PySem.boot_len (pa_cons (pv 3) pa_nil)) (nomark _)) pss_never pss_nil)
      (pss_cons (ps_for PassesOwn.never rfl (pi_zip (by rfl) B.zip (pa_cons (pv 2) (pa_cons (pv 3) pa_nil)))
        (pg_tup rfl (pgs_cons (pg_name (i := 4) sc_held_in.nd rfl (Or.inl rfl)) (pgs_cons (pg_name (i := 5) sc_held_in.nd rfl (Or.inl rfl)) pgs_nil)))
        (pss_one (ps_if (pt_not (pt_val (pe_fn N hr (pa_cons (pv 4) (pa_cons pe_int (pa_cons (pv 5) pa_nil)))))) pss_never pss_nil)))
      (pss_one (ps_ret (pv 2))))))), ?_⟩
    refine ⟨_, rfl, _, _, _, _, _, rfl, .ty "tuple", .tup ha, kit_tt, _, rfl, iteF ?_⟩
    refine ⟨_, rfl, a, _, rfl, .inr (SqT.of ha), fun l hl => ?_⟩
    have s1 : Same H (upd H l (.lst (st.map V.int))) := Same.new hl
    obtain ⟨dx, t, hp, ht⟩ := id hh
    refine ⟨_, rfl, p, dx, _, rfl, s1 _ _ hp, hF_no _ _ (by decide +kernel) (by decide +kernel), p, sz, tap, rfl, hh.mono s1, fun m hm => ?_⟩
    have s2 : Same (upd H l (.lst (st.map V.int))) (upd (upd H l (.lst (st.map V.int))) m (.lst (sz.map V.int))) := Same.new hm
    have e1 := s2 _ _ (upd_same (H := H))
    have hlen : (st.map V.int).length = (sz.map V.int).length := by simp [hst.len]
    refine ⟨_, rfl, l, _, rfl, .inl (SqL.of e1), _, rfl, m, _, rfl, .inl (SqL.of upd_same), rfl, _, rfl, iteNS (by rw [hlen]) ?_⟩
    refine ⟨_, rfl, _, rfl, l, m, _, _, rfl, SqL.of e1, SqL.of upd_same, for_zip (xs := st.map V.int) (ys := sz.map V.int) hlen
      (fun i σ H' => ∃ v4 v5, σ = [some (.ref p), some (.ref a), some (.ref l), some (.ref m), v4, v5] ∧ Same (upd (upd H l (.lst (st.map V.int))) m (.lst (sz.map V.int))) H')
      ⟨none, none, rfl, Same.refl _⟩ (fun i σ H' _ ⟨_, _, _, s3⟩ => ⟨SqL.of (s3 _ _ e1), SqL.of (s3 _ _ upd_same)⟩) ?_ ?_⟩
    · rintro i x y T σ H' hx hy hT ⟨v4, v5, rfl, s3⟩
      obtain ⟨zx, ex, rfl⟩ := mem_ints hx
      obtain ⟨zy, ey, rfl⟩ := mem_ints hy
      have hb := st_at hst ex ey
      refine ⟨T, _, rfl, SqT.of upd_same, rfl, _, _, rfl, _, _, rfl, rfl, ?_⟩
      refine ⟨_, rfl, _, rfl, zx, 0, zy, rfl, _, rfl, ?_⟩
      rw [decide_eq_true hb.1, decide_eq_true hb.2]
      refine iteF ?_
      exact ⟨_, _, rfl, s3.lay hT⟩
    · rintro σ H' ⟨v4, v5, rfl, s3⟩
      exact ⟨_, rfl, k l H' (s1.trans (s2.trans s3)) hl (s3 _ _ e1)⟩
end
end Jug

namespace Jug
open PySem L2
/-! ### moves -/
structure Cz where
  P : Addr
  F : Addr
  E : Addr
def pF (a b : Nat) : List (Str × V) := putF "other" (.int b) (putF "one" (.int a) [])
def jF (a : Nat) : List (Str × V) := putF "jug" (.int a) []
theorem n_one_other : ¬ (("one" : Str) = "other") := by decide +kernel
theorem pF_one (a b : Nat) : (pF a b).lookup ("one" : Str) = some (.int a) := by
  unfold pF
  rw [lookup_putF, if_neg n_one_other, lookup_putF, if_pos rfl]
theorem pF_other (a b : Nat) : (pF a b).lookup ("other" : Str) = some (.int b) := by
  unfold pF
  rw [lookup_putF, if_pos rfl]
theorem pF_no (a b : Nat) {m : Str} (h1 : ¬ m = "other") (h2 : ¬ m = "one") : (pF a b).lookup m = none := by
  unfold pF
  rw [lookup_putF, if_neg h1, lookup_putF, if_neg h2]
  rfl
theorem jF_jug (a : Nat) : (jF a).lookup ("jug" : Str) = some (.int a) := by
  unfold jF
  rw [lookup_putF, if_pos rfl]
theorem jF_no (a : Nat) {m : Str} (h1 : ¬ m = "jug") : (jF a).lookup m = none := by
  unfold jF
  rw [lookup_putF, if_neg h1]
  rfl
def Cz.cl (Z : Cz) : J.Mv → Addr
  | .pour _ _ => Z.P
  | .fill _ => Z.F
  | .emp _ => Z.E
def fsOf : J.Mv → List (Str × V)
  | .pour a b => pF a b
  | .fill a => jF a
  | .emp a => jF a
/-- a move stands at p -/
def MvAt (Z : Cz) (H : Hp) (p : Addr) (m : J.Mv) : Prop := ∃ dx, H p = some (.ins (Z.cl m) dx (fsOf m))
theorem MvAt.mono {Z : Cz} {H H' : Hp} {p : Addr} {m : J.Mv} (h : MvAt Z H p m) (s : Same H H') : MvAt Z H' p m := let ⟨dx, e⟩ := h; ⟨dx, s _ _ e⟩
structure CPo (K : PySem.W.Frag) (C : Addr) : Prop where
  cl : Cls K C
  one : NoAttr K C "one"
  other : NoAttr K C "other"
structure CJu (K : PySem.W.Frag) (C : Addr) : Prop where
  cl : Cls K C
  jug : NoAttr K C "jug"
theorem ixN_of {n j : Nat} (h : j < n) : ixN n (j : Int) = some j := by
  unfold ixN
  rw [if_pos (by omega), if_pos (by omega)]; simp
theorem map_set_int (l : List Int) (j : Nat) (v : Int) : (l.map V.int).set j (.int v) = (l.set j v).map V.int := by
  rw [List.map_set]
section
variable {P : Program} {w : World} {K : PySem.W.Frag} {mg : Str → Option Value} {base : Heap} {CH : Addr} {Z : Cz}
def sp_with_amount : Sp := fun vs H Q _ => ∃ (l : Addr) (xs : List Int) (j : Nat) (v : Int), vs = [.ref l, .int j, .int v] ∧ H l = some (.lst (xs.map V.int)) ∧ j < xs.length ∧
  ∀ m H', Same H H' → H' m = some (.lst ((xs.set j v).map V.int)) → Q (.ref m) H'
theorem ok_with_amount {f : Addr} {fd : FuncData} (F : Fun K "with_amount" "with_amount" s_with_amount f fd) (B : Bt mg) : FnOk P w K mg base CX0 1 f fd ["held", "jug", "many"] sp_with_amount := by
  refine F.ok sc_with_amount (fun vs H Q E h => ?_) (fun cdv A outer s H vs Q E hr h => ?_)
  · obtain ⟨l, xs, j, v, rfl, _⟩ := h
    rfl
  · obtain ⟨l, xs, j, v, rfl, hl, hj, k⟩ := h
    refine ⟨_, pss_cons (ps_set (i := 3) sc_with_amount.nd rfl (Or.inl rfl) (pe_callTy call_list_of (by rfl) B.list bt_list (pa_cons (pv 0) pa_nil)))
      (pss_cons (ps_asg (pv 2) (pg_sub (pv 3) (pv 1) set_list)) (pss_one (ps_ret (pv 3)))), ?_⟩
    refine ⟨_, rfl, l, _, rfl, .inl (SqL.of hl), fun m hm => ?_⟩
    refine ⟨_, rfl, _, rfl, _, rfl, m, _, _, j, rfl, rfl, upd_same, ixN_of (by simpa using hj), ?_⟩
    refine ⟨_, rfl, k m _ ((Same.new hm).put hm) ?_⟩
    rw [upd_same, map_set_int]
def sp_check_jug : Sp := fun vs H Q _ => ∃ (j : Nat), vs = [.int j] ∧ j ≤ 3 ∧ Q .non H
theorem ok_check_jug {f : Addr} {fd : FuncData} (F : Fun K "check_jug" "check_jug" s_check_jug' f fd) (N : FnB P w K mg base 2 "is_jug" ["value"] sp_is_jug) : FnOk P w K mg base CX0 3 f fd ["jug"] sp_check_jug := by
  refine F.ok sc_check_jug' (fun vs H Q E h => ?_) (fun cdv A outer s H vs Q E hr h => ?_)
  · obtain ⟨j, rfl, _⟩ := h
    rfl
  · obtain ⟨j, rfl, hj, k⟩ := h
    refine ⟨_, pss_one (ps_if (pt_not (pt_val (pe_fn N hr (pa_cons (pv 0) pa_nil)))) pss_never pss_nil), ?_⟩
    refine ⟨_, rfl, (j : Int), rfl, _, rfl, ?_⟩
    rw [decide_eq_true (by omega : (0 : Int) ≤ j), decide_eq_true (by omega : (j : Int) ≤ 3)]
    exact iteF k
def sp_check_house_has (CH : Addr) : Sp := fun vs H Q _ => ∃ p sz tap, ∃ (j : Nat), vs = [.ref p, .int j] ∧ House CH H p sz tap ∧ j < sz.length ∧ ∀ H', Same H H' → Q .non H'
theorem ok_check_house_has {f : Addr} {fd : FuncData} (F : Fun K "check_house_has" "check_house_has" s_check_house_has' f fd) (B : Bt mg) (S : MeB P w K mg base 1 CH "sizes" ["self"] (sp_sizes CH)) :
    FnOk P w K mg base CX0 2 f fd ["house", "jug"] (sp_check_house_has CH) := by
  refine F.ok sc_check_house_has' (fun vs H Q E h => ?_) (fun cdv A outer s H vs Q E hr h => ?_)
  · obtain ⟨p, sz, tap, j, rfl, _⟩ := h
    rfl
  · obtain ⟨p, sz, tap, j, rfl, hh, hj, k⟩ := h
    obtain ⟨dx, t, hp, ht⟩ := id hh
    refine ⟨_, pss_one (ps_if (pt_cmpR op_ge (pv 1) (pe_callB call_len_seq (by rfl) B.len PySem.boot_len (pa_cons (pe_me0 S (pv 0) hr) pa_nil)) (nomark _)) pss_never pss_nil), ?_⟩
    refine ⟨_, rfl, _, rfl, p, dx, _, rfl, hp, hF_no _ _ (by decide +kernel) (by decide +kernel), p, sz, tap, rfl, hh, fun m hm => ?_⟩
    refine ⟨m, _, rfl, .inl (SqL.of upd_same), _, _, rfl, rfl, _, rfl, ?_⟩
    rw [decide_eq_false (by simp; omega)]
    exact iteF (k _ (Same.new hm))
def sp_check_house_can_tap (CH : Addr) : Sp := fun vs H Q _ => ∃ p sz, ∃ (j : Nat), vs = [.ref p, .int j] ∧ House CH H p sz true ∧ j < sz.length ∧ ∀ H', Same H H' → Q .non H'
theorem ok_check_house_can_tap {f : Addr} {fd : FuncData} (F : Fun K "check_house_can_tap" "check_house_can_tap" s_check_house_can_tap f fd) (C : CHs K CH) (N : FnB P w K mg base 2 "check_house_has_moves" ["house", "jug"] (sp_check_house_has CH)) :
    FnOk P w K mg base CX0 3 f fd ["house", "jug"] (sp_check_house_can_tap CH) := by
  refine F.ok sc_check_house_can_tap (fun vs H Q E h => ?_) (fun cdv A outer s H vs Q E hr h => ?_)
  · obtain ⟨p, sz, j, rfl, _⟩ := h
    rfl
  · obtain ⟨p, sz, j, rfl, hh, hj, k⟩ := h
    refine ⟨_, pss_cons (ps_expr (pe_fn N hr (pa_cons (pv 0) (pa_cons (pv 1) pa_nil)))) (pss_one (ps_if (pt_not (pt_val (pe_fld (pv 0) rfl))) pss_never pss_nil)), ?_⟩
    refine ⟨_, rfl, _, rfl, p, sz, true, j, rfl, hh, hj, fun H1 s1 => ?_⟩
    obtain ⟨dx, t, hp, ht⟩ := hh.mono s1
    exact ⟨_, rfl, p, CH, dx, _, _, rfl, hp, C.cl, C.tap, hF_tap _ _, _, rfl, iteF (k _ s1)⟩
def sp_Pour_init (Z : Cz) : Sp := fun vs H Q _ => ∃ (p dx : Addr) (a b : Nat), vs = [.ref p, .int a, .int b] ∧ H p = some (.ins Z.P dx []) ∧ a ≤ 3 ∧ b ≤ 3 ∧ a ≠ b ∧
  ∀ H', (∀ c o, H c = some o → c ≠ p → H' c = some o) → H' p = some (.ins Z.P dx (pF a b)) → Q .non H'
theorem ok_Pour_init {f : Addr} {fd : FuncData} (F : Fun K "__init__" "Pour.__init__" s_Pour_init f fd) (C : CPo K Z.P) (N : FnB P w K mg base 3 "check_jug_moves" ["jug"] sp_check_jug) :
    FnOk P w K mg base CX0 4 f fd ["self", "one", "other"] (sp_Pour_init Z) := by
  refine F.ok sc_Pour_init (fun vs H Q E h => ?_) (fun cdv A outer s H vs Q E hr h => ?_)
  · obtain ⟨p, dx, a, b, rfl, _⟩ := h
    rfl
  · obtain ⟨p, dx, a, b, rfl, hp, ha, hb, hab, k⟩ := h
    refine ⟨_, pss_cons (ps_expr (pe_fn N hr (pa_cons (pv 1) pa_nil))) (pss_cons (ps_expr (pe_fn N hr (pa_cons (pv 2) pa_nil)))
      (pss_cons (ps_if (pt_cmpR op_eq (pv 1) (pv 2) (nomark _)) pss_never pss_nil)
      (pss_cons (ps_fld (pv 0) (pv 1) rfl) (pss_one (ps_fld (pv 0) (pv 2) rfl))))), ?_⟩
    refine ⟨_, rfl, a, rfl, ha, ?_⟩
    refine ⟨_, rfl, b, rfl, hb, ?_⟩
    refine ⟨_, rfl, _, rfl, rfl, _, rfl, ?_⟩
    rw [decide_eq_false (by simp; omega)]
    refine iteF ?_
    refine ⟨_, rfl, _, rfl, p, Z.P, dx, [], rfl, hp, C.cl, C.one, (by show 0 < 1000; decide), ?_⟩
    refine ⟨_, rfl, _, rfl, p, Z.P, dx, _, rfl, upd_same, C.cl, C.other, (by show 1 < 1000; decide), ?_⟩
    exact k _ (fun c o e hc => by rw [upd_ne hc, upd_ne hc]; exact e) upd_same
def sp_jug_init (C : Addr) : Sp := fun vs H Q _ => ∃ (p dx : Addr) (a : Nat), vs = [.ref p, .int a] ∧ H p = some (.ins C dx []) ∧ a ≤ 3 ∧
  ∀ H', (∀ c o, H c = some o → c ≠ p → H' c = some o) → H' p = some (.ins C dx (jF a)) → Q .non H'
theorem ok_Fill_init {f : Addr} {fd : FuncData} (F : Fun K "__init__" "Fill.__init__" s_Fill_init f fd) (C : CJu K Z.F) (N : FnB P w K mg base 3 "check_jug_moves" ["jug"] sp_check_jug) :
    FnOk P w K mg base CX0 4 f fd ["self", "jug"] (sp_jug_init Z.F) := by
  refine F.ok sc_Fill_init (fun vs H Q E h => ?_) (fun cdv A outer s H vs Q E hr h => ?_)
  · obtain ⟨p, dx, a, rfl, _⟩ := h
    rfl
  · obtain ⟨p, dx, a, rfl, hp, ha, k⟩ := h
    refine ⟨_, pss_cons (ps_expr (pe_fn N hr (pa_cons (pv 1) pa_nil))) (pss_one (ps_fld (pv 0) (pv 1) rfl)), ?_⟩
    refine ⟨_, rfl, a, rfl, ha, ?_⟩
    refine ⟨_, rfl, _, rfl, p, Z.F, dx, [], rfl, hp, C.cl, C.jug, (by show 0 < 1000; decide), ?_⟩
    exact k _ (fun c o e hc => by rw [upd_ne hc]; exact e) upd_same
theorem ok_Empty_init {f : Addr} {fd : FuncData} (F : Fun K "__init__" "Empty.__init__" s_Empty_init f fd) (C : CJu K Z.E) (N : FnB P w K mg base 3 "check_jug_moves" ["jug"] sp_check_jug) :
    FnOk P w K mg base CX0 4 f fd ["self", "jug"] (sp_jug_init Z.E) := by
  refine F.ok sc_Empty_init (fun vs H Q E h => ?_) (fun cdv A outer s H vs Q E hr h => ?_)
  · obtain ⟨p, dx, a, rfl, _⟩ := h
    rfl
  · obtain ⟨p, dx, a, rfl, hp, ha, k⟩ := h
    refine ⟨_, pss_cons (ps_expr (pe_fn N hr (pa_cons (pv 1) pa_nil))) (pss_one (ps_fld (pv 0) (pv 1) rfl)), ?_⟩
    refine ⟨_, rfl, a, rfl, ha, ?_⟩
    refine ⟨_, rfl, _, rfl, p, Z.E, dx, [], rfl, hp, C.cl, C.jug, (by show 0 < 1000; decide), ?_⟩
    exact k _ (fun c o e hc => by rw [upd_ne hc]; exact e) upd_same
/-- held_behind of each sort -/
def sp_hb (Z : Cz) (CH : Addr) (ok : J.Mv → Prop) : Sp := fun vs H Q _ => ∃ p h l sz tap st m, vs = [.ref p, .ref h, .ref l] ∧ ok m ∧ MvAt Z H p m ∧ House CH H h sz tap ∧ H l = some (.lst (st.map V.int)) ∧ J.IsSt sz st ∧ m.ok sz.length tap ∧
  ∀ r H', Same H H' → H' r = some (.lst ((J.behind sz st m).map V.int)) → Q (.ref r) H'
def isPour : J.Mv → Prop := fun m => match m with | .pour _ _ => True | _ => False
def isFill : J.Mv → Prop := fun m => match m with | .fill _ => True | _ => False
def isEmp : J.Mv → Prop := fun m => match m with | .emp _ => True | _ => False
theorem ok_Pour_hb {f : Addr} {fd : FuncData} (F : Fun K "held_behind" "Pour.held_behind" s_Pour_held_behind f fd) (B : Bt mg) (C : CPo K Z.P) (N : FnB P w K mg base 2 "check_house_has_moves" ["house", "jug"] (sp_check_house_has CH))
    (S : MeB P w K mg base 1 CH "sizes" ["self"] (sp_sizes CH)) (W : FnB P w K mg base 1 "with_amount" ["held", "jug", "many"] sp_with_amount) :
    FnOk P w K mg base CX0 3 f fd ["self", "house", "held"] (sp_hb Z CH isPour) := by
  refine F.ok sc_Pour_held_behind (fun vs H Q E h => ?_) (fun cdv A outer s H vs Q E hr h => ?_)
  · obtain ⟨p, h', l, sz, tap, st, m, rfl, _⟩ := h
    rfl
  · obtain ⟨p, q, l, sz, tap, st, m, rfl, hm, hmv, hh, hl, hst, hok, k⟩ := h
    cases m with
    | fill a => exact hm.elim
    | emp a => exact hm.elim
    | pour a b =>
      obtain ⟨ha, hb, hab⟩ := hok
      have hr1 : Room 1 _ := hr.mono (by decide)
      have la : a < st.length := by rw [hst.len]; exact ha
      have lb : b < st.length := by rw [hst.len]; exact hb
      refine ⟨_, pss_cons (ps_expr (pe_fn N hr (pa_cons (pv 1) (pa_cons (pe_fld (pv 0) rfl) pa_nil)))) (pss_cons (ps_expr (pe_fn N hr (pa_cons (pv 1) (pa_cons (pe_fld (pv 0) rfl) pa_nil))))
        (pss_cons (ps_set (i := 3) sc_Pour_held_behind.nd rfl (Or.inl rfl) (pe_op op_sub (pe_ix ix_list (pe_me0 S (pv 1) hr1) (pe_fld (pv 0) rfl) (fun _ _ => rfl)) (pe_ix ix_list (pv 2) (pe_fld (pv 0) rfl) (fun _ _ => rfl))))
        (pss_cons (ps_set (i := 4) sc_Pour_held_behind.nd rfl (Or.inl rfl) (pe_callB (call_min2 rfl) (by rfl) B.min bt_min (pa_cons (pe_ix ix_list (pv 2) (pe_fld (pv 0) rfl) (fun _ _ => rfl)) (pa_cons (pv 3) pa_nil))))
        (pss_cons (ps_set (i := 5) sc_Pour_held_behind.nd rfl (Or.inl rfl) (pe_fn W hr1 (pa_cons (pv 2) (pa_cons (pe_fld (pv 0) rfl) (pa_cons (pe_op op_sub (pe_ix ix_list (pv 2) (pe_fld (pv 0) rfl) (fun _ _ => rfl)) (pv 4)) pa_nil)))))
        (pss_one (ps_ret (pe_fn W hr1 (pa_cons (pv 5) (pa_cons (pe_fld (pv 0) rfl) (pa_cons (pe_op op_add (pe_ix ix_list (pv 2) (pe_fld (pv 0) rfl) (fun _ _ => rfl)) (pv 4)) pa_nil)))))))))), ?_⟩
      obtain ⟨dp, hp⟩ := hmv
      have hp : H p = some (.ins Z.P dp (pF a b)) := hp
      refine ⟨_, rfl, _, rfl, p, Z.P, dp, _, _, rfl, hp, C.cl, C.one, pF_one _ _, q, sz, tap, a, rfl, hh, ha, fun H1 s1 => ?_⟩
      refine ⟨_, rfl, _, rfl, p, Z.P, dp, _, _, rfl, s1 _ _ hp, C.cl, C.other, pF_other _ _, q, sz, tap, b, rfl, hh.mono s1, hb, fun H2 s2 => ?_⟩
      have s02 := s1.trans s2
      obtain ⟨dq, t, hq, ht⟩ := hh.mono s02
      refine ⟨_, rfl, q, dq, _, rfl, hq, hF_no _ _ (by decide +kernel) (by decide +kernel), q, sz, tap, rfl, hh.mono s02, fun x hx => ?_⟩
      have s03 : Same H (upd H2 x (.lst (sz.map V.int))) := s02.lay hx
      refine ⟨_, rfl, p, Z.P, dp, _, _, rfl, s03 _ _ hp, C.cl, C.other, pF_other _ _, x, _, _, _, rfl, rfl, SqL.of upd_same, atI_nat (getV_of hb), ?_⟩
      refine ⟨_, rfl, _, rfl, p, Z.P, dp, _, _, rfl, s03 _ _ hp, C.cl, C.other, pF_other _ _, l, _, _, _, rfl, rfl, SqL.of (s03 _ _ hl), atI_nat (getV_of lb), _, _, rfl, rfl, ?_⟩
      refine ⟨_, rfl, _, rfl, p, Z.P, dp, _, _, rfl, s03 _ _ hp, C.cl, C.one, pF_one _ _, l, _, _, _, rfl, rfl, SqL.of (s03 _ _ hl), atI_nat (getV_of la), _, rfl, _, _, rfl, ?_⟩
      refine ⟨_, rfl, _, rfl, p, Z.P, dp, _, _, rfl, s03 _ _ hp, C.cl, C.one, pF_one _ _, _, rfl, _, rfl, p, Z.P, dp, _, _, rfl, s03 _ _ hp, C.cl, C.one, pF_one _ _, l, _, _, _, rfl, rfl, SqL.of (s03 _ _ hl), atI_nat (getV_of la), _, rfl, _, _, rfl, rfl, l, st, a, _, rfl, s03 _ _ hl, la, fun r H4 s4 e4 => ?_⟩
      have s04 := s03.trans s4
      refine ⟨_, rfl, _, rfl, p, Z.P, dp, _, _, rfl, s04 _ _ hp, C.cl, C.other, pF_other _ _, _, rfl, _, rfl, p, Z.P, dp, _, _, rfl, s04 _ _ hp, C.cl, C.other, pF_other _ _, l, _, _, _, rfl, rfl, SqL.of (s04 _ _ hl), atI_nat (getV_of lb), _, rfl, _, _, rfl, rfl, r, _, b, _, rfl, e4, (by simpa using lb), fun r' H5 s5 e5 => ?_⟩
      exact k r' H5 (s04.trans s5) e5
end
end Jug

namespace Jug
open PySem L2
/-! ### what stays: all objects but lists and dicts -/
def fx : HO → Bool
  | .lst _ => false
  | .dK _ => false
  | .dT _ => false
  | _ => true
def Fix (H H' : Hp) : Prop := ∀ c o, H c = some o → fx o = true → H' c = some o
theorem Fix.of {H H' : Hp} (s : Same H H') : Fix H H' := fun c o e _ => s c o e
theorem Fix.trans {H H1 H2 : Hp} (a : Fix H H1) (b : Fix H1 H2) : Fix H H2 := fun c o e f => b c o (a c o e f) f
theorem Fix.put {H : Hp} {l : Addr} {o o' : HO} (h : H l = some o) (f : fx o = false) : Fix H (upd H l o') := fun c u e g => by
  rw [upd_ne]
  · exact e
  · rintro rfl
    rw [h] at e
    cases e
    rw [f] at g
    cases g
theorem MvAt.fix {Z : Cz} {H H' : Hp} {p : Addr} {m : J.Mv} (h : MvAt Z H p m) (s : Fix H H') : MvAt Z H' p m := let ⟨dx, e⟩ := h; ⟨dx, s _ _ e rfl⟩
theorem House.fix {CH : Addr} {H H' : Hp} {p : Addr} {sz : List Int} {tap : Bool} (h : House CH H p sz tap) (s : Fix H H') : House CH H' p sz tap := by
  obtain ⟨dx, t, h1, h2⟩ := h
  exact ⟨dx, t, s _ _ h1 rfl, s _ _ h2 rfl⟩
/-- a move, a tuple of ints, as values -/
def isM (Z : Cz) (H : Hp) : V → J.Mv → Prop := fun v m => ∃ p, v = .ref p ∧ MvAt Z H p m
def isTI (H : Hp) : V → List Int → Prop := fun v st => ∃ a, v = .ref a ∧ H a = some (.tup (st.map V.int))
theorem isM.fix {Z : Cz} {H H' : Hp} (s : Fix H H') : ∀ v m, isM Z H v m → isM Z H' v m := fun _ _ ⟨p, e, h⟩ => ⟨p, e, h.fix s⟩
theorem isTI.fix {H H' : Hp} (s : Fix H H') : ∀ v m, isTI H v m → isTI H' v m := fun _ _ ⟨p, e, h⟩ => ⟨p, e, s _ _ h rfl⟩
theorem pm_fix {Z : Cz} {H H' : Hp} {vs : List V} {ms : List J.Mv} (h : Paired (isM Z H) vs ms) (s : Fix H H') : Paired (isM Z H') vs ms := Paired.mapP h (isM.fix s)
theorem pt_fix {H H' : Hp} {vs : List V} {ms : List (List Int)} (h : Paired (isTI H) vs ms) (s : Fix H H') : Paired (isTI H') vs ms := Paired.mapP h (isTI.fix s)
structure CTy (K : PySem.W.Frag) (C : Addr) : Prop where
  ha : PySem.W.findIn K (.ref C) "__class__" = some (some (.builtin "object.__class__"))
  hn : PySem.W.specialIn K (.builtin "object.__class__") "__get__" = some (some (.builtin "getset_descriptor.__get__"))
  htk : PySem.W.takesIn K (.builtin "object.__class__") = some true
  hm : PySem.W.mroIn K C (.type "object") = some true
structure MvC (K : PySem.W.Frag) (mg : Str → Option Value) (Z : Cz) : Prop where
  po : CPo K Z.P
  fi : CJu K Z.F
  em : CJu K Z.E
  tP : CTy K Z.P
  tF : CTy K Z.F
  tE : CTy K Z.E
  gP : mg "Pour" = some (.ref Z.P)
  gF : mg "Fill" = some (.ref Z.F)
  gE : mg "Empty" = some (.ref Z.E)
  kFP : PySem.W.kitOne K (.ref Z.F) (.ref Z.P) = some false
  kEP : PySem.W.kitOne K (.ref Z.E) (.ref Z.P) = some false
  kEF : PySem.W.kitOne K (.ref Z.E) (.ref Z.F) = some false
theorem kit_self {K : PySem.W.Frag} (C : Addr) : PySem.W.kitOne K (.ref C) (.ref C) = some true := by
  unfold PySem.W.kitOne
  rw [if_pos (by simp)]
section
variable {P : Program} {w : World} {K : PySem.W.Frag} {mg : Str → Option Value} {base : Heap} {CH : Addr} {Z : Cz}
theorem ok_Fill_hb {f : Addr} {fd : FuncData} (F : Fun K "held_behind" "Fill.held_behind" s_Fill_held_behind f fd) (B : Bt mg) (C : CJu K Z.F) (N : FnB P w K mg base 3 "check_house_can_tap" ["house", "jug"] (sp_check_house_can_tap CH))
    (S : MeB P w K mg base 1 CH "sizes" ["self"] (sp_sizes CH)) (W : FnB P w K mg base 1 "with_amount" ["held", "jug", "many"] sp_with_amount) :
    FnOk P w K mg base CX0 4 f fd ["self", "house", "held"] (sp_hb Z CH isFill) := by
  refine F.ok sc_Fill_held_behind (fun vs H Q E h => ?_) (fun cdv A outer s H vs Q E hr h => ?_)
  · obtain ⟨p, h', l, sz, tap, st, m, rfl, _⟩ := h
    rfl
  · obtain ⟨p, q, l, sz, tap, st, m, rfl, hm, hmv, hh, hl, hst, hok, k⟩ := h
    cases m with
    | pour a b => exact hm.elim
    | emp a => exact hm.elim
    | fill a =>
      obtain ⟨ha, rfl⟩ := hok
      have hr1 : Room 1 _ := hr.mono (by decide)
      have la : a < st.length := by rw [hst.len]; exact ha
      refine ⟨_, pss_cons (ps_expr (pe_fn N hr (pa_cons (pv 1) (pa_cons (pe_fld (pv 0) rfl) pa_nil))))
        (pss_one (ps_ret (pe_fn W hr1 (pa_cons (pv 2) (pa_cons (pe_fld (pv 0) rfl) (pa_cons (pe_ix ix_list (pe_me0 S (pv 1) hr1) (pe_fld (pv 0) rfl) (fun _ _ => rfl)) pa_nil)))))), ?_⟩
      obtain ⟨dp, hp⟩ := hmv
      have hp : H p = some (.ins Z.F dp (jF a)) := hp
      refine ⟨_, rfl, _, rfl, p, Z.F, dp, _, _, rfl, hp, C.cl, C.jug, jF_jug _, q, sz, a, rfl, hh, ha, fun H1 s1 => ?_⟩
      obtain ⟨dq, t, hq, ht⟩ := hh.mono s1
      refine ⟨_, rfl, _, rfl, p, Z.F, dp, _, _, rfl, s1 _ _ hp, C.cl, C.jug, jF_jug _, _, rfl, q, dq, _, rfl, hq, hF_no _ _ (by decide +kernel) (by decide +kernel), q, sz, true, rfl, hh.mono s1, fun x hx => ?_⟩
      have s2 : Same H (upd H1 x (.lst (sz.map V.int))) := s1.lay hx
      refine ⟨_, rfl, p, Z.F, dp, _, _, rfl, s2 _ _ hp, C.cl, C.jug, jF_jug _, x, _, _, _, rfl, rfl, SqL.of upd_same, atI_nat (getV_of ha), l, st, a, _, rfl, s2 _ _ hl, la, fun r H4 s4 e4 => ?_⟩
      exact k r H4 (s2.trans s4) e4
theorem ok_Empty_hb {f : Addr} {fd : FuncData} (F : Fun K "held_behind" "Empty.held_behind" s_Empty_held_behind f fd) (B : Bt mg) (C : CJu K Z.E) (N : FnB P w K mg base 3 "check_house_can_tap" ["house", "jug"] (sp_check_house_can_tap CH))
    (W : FnB P w K mg base 1 "with_amount" ["held", "jug", "many"] sp_with_amount) :
    FnOk P w K mg base CX0 4 f fd ["self", "house", "held"] (sp_hb Z CH isEmp) := by
  refine F.ok sc_Empty_held_behind (fun vs H Q E h => ?_) (fun cdv A outer s H vs Q E hr h => ?_)
  · obtain ⟨p, h', l, sz, tap, st, m, rfl, _⟩ := h
    rfl
  · obtain ⟨p, q, l, sz, tap, st, m, rfl, hm, hmv, hh, hl, hst, hok, k⟩ := h
    cases m with
    | pour a b => exact hm.elim
    | fill a => exact hm.elim
    | emp a =>
      obtain ⟨ha, rfl⟩ := hok
      have hr1 : Room 1 _ := hr.mono (by decide)
      have la : a < st.length := by rw [hst.len]; exact ha
      refine ⟨_, pss_cons (ps_expr (pe_fn N hr (pa_cons (pv 1) (pa_cons (pe_fld (pv 0) rfl) pa_nil))))
        (pss_one (ps_ret (pe_fn W hr1 (pa_cons (pv 2) (pa_cons (pe_fld (pv 0) rfl) (pa_cons pe_int pa_nil)))))), ?_⟩
      obtain ⟨dp, hp⟩ := hmv
      have hp : H p = some (.ins Z.E dp (jF a)) := hp
      refine ⟨_, rfl, _, rfl, p, Z.E, dp, _, _, rfl, hp, C.cl, C.jug, jF_jug _, q, sz, a, rfl, hh, ha, fun H1 s1 => ?_⟩
      refine ⟨_, rfl, _, rfl, p, Z.E, dp, _, _, rfl, s1 _ _ hp, C.cl, C.jug, jF_jug _, l, st, a, _, rfl, s1 _ _ hl, la, fun r H4 s4 e4 => ?_⟩
      exact k r H4 (s1.trans s4) e4
/-- move.done -/
def sp_done (Z : Cz) (CH : Addr) : Sp := fun vs H Q _ => ∃ p h a sz tap st m, vs = [.ref p, .ref h, .ref a] ∧ MvAt Z H p m ∧ House CH H h sz tap ∧ H a = some (.tup (st.map V.int)) ∧ J.IsSt sz st ∧ m.ok sz.length tap ∧
  ∀ r H', Same H H' → H' r = some (.tup ((J.behind sz st m).map V.int)) → Q (.ref r) H'
theorem ok_done {f : Addr} {fd : FuncData} (F : Fun K "done" "Move.done" s_Move_done f fd) (B : Bt mg) (N : FnB P w K mg base 2 "held_in" ["house", "state"] (sp_held_in CH))
    (HP : MeB P w K mg base 4 Z.P "held_behind" ["self", "house", "held"] (sp_hb Z CH isPour)) (HF : MeB P w K mg base 4 Z.F "held_behind" ["self", "house", "held"] (sp_hb Z CH isFill)) (HE : MeB P w K mg base 4 Z.E "held_behind" ["self", "house", "held"] (sp_hb Z CH isEmp)) :
    FnOk P w K mg base CX0 5 f fd ["self", "house", "state"] (sp_done Z CH) := by
  refine F.ok sc_Move_done (fun vs H Q E h => ?_) (fun cdv A outer s H vs Q E hr h => ?_)
  · obtain ⟨p, h', a, sz, tap, st, m, rfl, _⟩ := h
    rfl
  · obtain ⟨p, q, a, sz, tap, st, m, rfl, hmv, hh, ha, hst, hok, k⟩ := h
    have hr2 : Room 2 _ := hr.mono (by decide)
    obtain ⟨dp, hp⟩ := id hmv
    cases m with
    | pour x y =>
      refine ⟨_, pss_cons (ps_set (i := 3) sc_Move_done.nd rfl (Or.inl rfl) (pe_fn N hr2 (pa_cons (pv 1) (pa_cons (pv 2) pa_nil))))
        (pss_one (ps_ret (pe_callTy call_tuple_of (by rfl) B.tuple bt_tuple (pa_cons (pe_me HP (pv 0) hr (pa_cons (pv 1) (pa_cons (pv 3) pa_nil))) pa_nil)))), ?_⟩
      refine ⟨_, rfl, _, rfl, q, sz, tap, a, st, rfl, hh, ha, hst, fun l H1 s1 nl hl => ?_⟩
      refine ⟨_, rfl, p, dp, _, rfl, s1 _ _ hp, pF_no _ _ (by decide +kernel) (by decide +kernel), _, rfl, _, rfl, p, q, l, sz, tap, st, .pour x y, rfl, trivial, hmv.mono s1, hh.mono s1, hl, hst, hok, fun r H2 s2 hr2 => ?_⟩
      exact ⟨r, _, rfl, .inl ⟨SqL.of hr2, fun t nt => k t _ ((s1.trans s2).lay nt) upd_same⟩⟩
    | fill x =>
      refine ⟨_, pss_cons (ps_set (i := 3) sc_Move_done.nd rfl (Or.inl rfl) (pe_fn N hr2 (pa_cons (pv 1) (pa_cons (pv 2) pa_nil))))
        (pss_one (ps_ret (pe_callTy call_tuple_of (by rfl) B.tuple bt_tuple (pa_cons (pe_me HF (pv 0) hr (pa_cons (pv 1) (pa_cons (pv 3) pa_nil))) pa_nil)))), ?_⟩
      refine ⟨_, rfl, _, rfl, q, sz, tap, a, st, rfl, hh, ha, hst, fun l H1 s1 nl hl => ?_⟩
      refine ⟨_, rfl, p, dp, _, rfl, s1 _ _ hp, jF_no _ (by decide +kernel), _, rfl, _, rfl, p, q, l, sz, tap, st, .fill x, rfl, trivial, hmv.mono s1, hh.mono s1, hl, hst, hok, fun r H2 s2 hr2 => ?_⟩
      exact ⟨r, _, rfl, .inl ⟨SqL.of hr2, fun t nt => k t _ ((s1.trans s2).lay nt) upd_same⟩⟩
    | emp x =>
      refine ⟨_, pss_cons (ps_set (i := 3) sc_Move_done.nd rfl (Or.inl rfl) (pe_fn N hr2 (pa_cons (pv 1) (pa_cons (pv 2) pa_nil))))
        (pss_one (ps_ret (pe_callTy call_tuple_of (by rfl) B.tuple bt_tuple (pa_cons (pe_me HE (pv 0) hr (pa_cons (pv 1) (pa_cons (pv 3) pa_nil))) pa_nil)))), ?_⟩
      refine ⟨_, rfl, _, rfl, q, sz, tap, a, st, rfl, hh, ha, hst, fun l H1 s1 nl hl => ?_⟩
      refine ⟨_, rfl, p, dp, _, rfl, s1 _ _ hp, jF_no _ (by decide +kernel), _, rfl, _, rfl, p, q, l, sz, tap, st, .emp x, rfl, trivial, hmv.mono s1, hh.mono s1, hl, hst, hok, fun r H2 s2 hr2 => ?_⟩
      exact ⟨r, _, rfl, .inl ⟨SqL.of hr2, fun t nt => k t _ ((s1.trans s2).lay nt) upd_same⟩⟩
/-- moves_in -/
def anyMv (Z : Cz) : Addr → Prop := fun C => C = Z.P ∨ C = Z.F ∨ C = Z.E
theorem anyMv_cl (Z : Cz) (m : J.Mv) : anyMv Z (Z.cl m) := by
  cases m with
  | pour _ _ => exact .inl rfl
  | fill _ => exact .inr (.inl rfl)
  | emp _ => exact .inr (.inr rfl)
theorem fsOf_no (m : J.Mv) {x : Str} (h1 : ¬ x = "other") (h2 : ¬ x = "one") (h3 : ¬ x = "jug") : (fsOf m).lookup x = none := by
  cases m with
  | pour _ _ => exact pF_no _ _ h1 h2
  | fill _ => exact jF_no _ h3
  | emp _ => exact jF_no _ h3
end
end Jug

namespace Jug
open PySem L2
/-! ### houses -/
structure Hz (sz : List Int) : Prop where
  l1 : 1 ≤ sz.length
  l4 : sz.length ≤ 4
  bd : ∀ s ∈ sz, 1 ≤ s ∧ s ≤ 60
  pr : J.prod1 sz ≤ 2000
theorem Hz.nn {sz : List Int} (h : Hz sz) : ∀ i, i < sz.length → 0 ≤ J.at0 sz i := fun i hi => by
  have := h.bd _ (List.mem_of_getElem? (get_of hi))
  omega
theorem Hz.states_le {sz : List Int} (h : Hz sz) : (J.states sz).length ≤ 2000 := by
  have h1 := J.len_states (sz := sz) fun s hs => by have := h.bd s hs; omega
  have h2 := h.pr
  omega
section
variable {P : Program} {w : World} {K : PySem.W.Frag} {mg : Str → Option Value} {base : Heap} {CH : Addr} {Z : Cz}
def sp_count_states : Sp := fun vs H Q _ => ∃ l sz, vs = [.ref l] ∧ H l = some (.lst (sz.map V.int)) ∧ (∀ s ∈ sz, 1 ≤ s ∧ s ≤ 60) ∧ Q (.int (J.prod1 sz)) H
theorem ok_count_states {f : Addr} {fd : FuncData} (F : Fun K "count_states" "count_states" s_count_states f fd) : FnOk P w K mg base CX0 1 f fd ["sizes"] sp_count_states := by
  refine F.ok sc_count_states (fun vs H Q E h => ?_) (fun cdv A outer s H vs Q E hr h => ?_)
  · obtain ⟨l, sz, rfl, _⟩ := h
    rfl
  · obtain ⟨l, sz, rfl, hl, hb, k⟩ := h
    refine ⟨_, pss_cons (ps_set (i := 1) sc_count_states.nd rfl (Or.inl rfl) pe_int)
      (pss_cons (ps_for PassesOwn.never rfl (pi_list (pv 0)) (pg_name (i := 2) sc_count_states.nd rfl (Or.inl rfl))
        (pss_one (ps_set (i := 1) sc_count_states.nd rfl (Or.inl rfl) (pe_op op_mul (pv 1) (pe_op op_add (pv 2) pe_int)))))
      (pss_one (ps_ret (pv 1)))), ?_⟩
    refine ⟨_, rfl, l, rfl, ⟨_, SqL.of hl⟩, for_list (K := K) (a := l) (xs := sz.map V.int) (fun i σ H' => ∃ v, σ = [some (.ref l), some (.int ((sz.take i).foldl (fun m s => m * (s + 1)) 1)), v] ∧ H' = H)
      ⟨none, rfl, rfl⟩ (fun i σ H' _ ⟨_, _, e⟩ => by subst e; exact SqL.of hl) ?_ ?_⟩
    · rintro i x σ H' hx ⟨v, rfl, rfl⟩
      obtain ⟨z, ez, rfl⟩ := mem_ints hx
      have hz := hb z (List.mem_of_getElem? ez)
      refine ⟨_, rfl, _, rfl, _, _, rfl, rfl, _, _, rfl, rfl, .inr ⟨by omega, by omega⟩, ?_⟩
      refine ⟨some (.int z), ?_, rfl⟩
      rw [List.take_add_one, ez, List.foldl_append]
      rfl
    · rintro σ H' ⟨v, rfl, rfl⟩
      refine ⟨_, rfl, ?_⟩
      rw [List.length_map, List.take_length]
      exact k
def sp_sizes_in : Sp := fun vs H Q _ => ∃ l sz, vs = [.ref l] ∧ H l = some (.lst (sz.map V.int)) ∧ Hz sz ∧ ∀ r H', Same H H' → H' r = some (.lst (sz.map V.int)) → Q (.ref r) H'
theorem ok_sizes_in {f : Addr} {fd : FuncData} (F : Fun K "sizes_in" "sizes_in" s_sizes_in f fd) (B : Bt mg) (hst : ∃ t, mg "MOST_STATES" = some (.int 2000 t)) (N : FnB P w K mg base 1 "is_number" ["value", "least", "most"] sp_is_number)
    (C : FnB P w K mg base 1 "count_states" ["sizes"] sp_count_states) : FnOk P w K mg base CX0 2 f fd ["sizes"] sp_sizes_in := by
  obtain ⟨t4, e4⟩ := B.jugs
  obtain ⟨t60, e60⟩ := B.size
  obtain ⟨t2, e2⟩ := hst
  refine F.ok sc_sizes_in (fun vs H Q E h => ?_) (fun cdv A outer s H vs Q E hr h => ?_)
  · obtain ⟨l, sz, rfl, _⟩ := h
    rfl
  · obtain ⟨l, sz, rfl, hl, hz, k⟩ := h
    refine ⟨_, pss_cons (ps_if (pt_not (pt_val (pe_callB call_isinst (by rfl) B.isinstance bt_isinstance (pa_cons (pv 0) (pa_cons (pe_bltn (v := .ty "list") (by rfl) B.list bt_list rfl) pa_nil))))) pss_never pss_nil)
      (pss_cons (ps_set (i := 1) sc_sizes_in.nd rfl (Or.inl rfl) (pe_callTy call_list_of (by rfl) B.list bt_list (pa_cons (pv 0) pa_nil)))
      (pss_cons (ps_if (pt_not (pt_chain op_le op_le pe_int (pe_callB call_len_seq (by rfl) B.len PySem.boot_len (pa_cons (pv 1) pa_nil)) (pe_glob (v := .int 4) (by rfl) e4 ⟨_, rfl⟩))) pss_never pss_nil)
      (pss_cons (ps_for PassesOwn.never rfl (pi_list (pv 1)) (pg_name (i := 2) sc_sizes_in.nd rfl (Or.inl rfl))
        (pss_one (ps_if (pt_not (pt_val (pe_fn N hr (pa_cons (pv 2) (pa_cons pe_int (pa_cons (pe_glob (v := .int 60) (by rfl) e60 ⟨_, rfl⟩) pa_nil)))))) pss_never pss_nil)))
      (pss_cons (ps_if (pt_cmpR op_gt (pe_fn C hr (pa_cons (pv 1) pa_nil)) (pe_glob (v := .int 2000) (by rfl) e2 ⟨_, rfl⟩) (nomark _)) pss_never pss_nil)
      (pss_one (ps_ret (pv 1))))))), ?_⟩
    refine ⟨_, rfl, _, _, _, _, _, rfl, .ty "list", .lst hl, kit_ll, _, rfl, iteF ?_⟩
    refine ⟨_, rfl, l, _, rfl, .inl (SqL.of hl), fun r nr => ?_⟩
    have s1 : Same H (upd H r (.lst (sz.map V.int))) := Same.new nr
    refine ⟨_, rfl, r, _, rfl, .inl (SqL.of upd_same), _, _, rfl, rfl, _, rfl, ?_⟩
    have h1 := hz.l1
    have h4 := hz.l4
    rw [decide_eq_true (by simp; omega)]
    refine iteT ⟨_, _, rfl, rfl, _, rfl, ?_⟩
    rw [decide_eq_true (by simp; omega)]
    refine iteF ?_
    refine ⟨_, rfl, r, rfl, ⟨_, SqL.of upd_same⟩, for_list (K := K) (a := r) (xs := sz.map V.int) (fun i σ H' => ∃ v, σ = [some (.ref l), some (.ref r), v] ∧ H' = upd H r (.lst (sz.map V.int)))
      ⟨none, rfl, rfl⟩ (fun i σ H' _ ⟨_, _, e⟩ => by subst e; exact SqL.of upd_same) ?_ ?_⟩
    · rintro i x σ H' hx ⟨v, rfl, rfl⟩
      obtain ⟨z, ez, rfl⟩ := mem_ints hx
      have hb := hz.bd z (List.mem_of_getElem? ez)
      refine ⟨_, rfl, z, 1, 60, rfl, _, rfl, ?_⟩
      rw [decide_eq_true hb.1, decide_eq_true hb.2]
      exact iteF ⟨_, rfl, rfl⟩
    · rintro σ H' ⟨v, rfl, rfl⟩
      refine ⟨_, rfl, r, sz, rfl, upd_same, hz.bd, _, _, rfl, rfl, _, rfl, ?_⟩
      have := hz.pr
      rw [decide_eq_false (by omega)]
      exact iteF ⟨_, rfl, k r _ s1 upd_same⟩
def sp_House_init (CH : Addr) : Sp := fun vs H Q _ => ∃ (p dx l : Addr) (sz : List Int) (tap : Bool), vs = [.ref p, .ref l, .bl tap] ∧ H p = some (.ins CH dx []) ∧ H l = some (.lst (sz.map V.int)) ∧ Hz sz ∧
  ∀ H', (∀ c o, H c = some o → c ≠ p → H' c = some o) → House CH H' p sz tap → Q .non H'
theorem ok_House_init {f : Addr} {fd : FuncData} (F : Fun K "__init__" "House.__init__" s_House_init f fd) (B : Bt mg) (C : CHs K CH) (N : FnB P w K mg base 2 "sizes_in" ["sizes"] sp_sizes_in) :
    FnOk P w K mg base CX0 3 f fd ["self", "sizes", "tap"] (sp_House_init CH) := by
  refine F.ok sc_House_init (fun vs H Q E h => ?_) (fun cdv A outer s H vs Q E hr h => ?_)
  · obtain ⟨p, dx, l, sz, tap, rfl, _⟩ := h
    rfl
  · obtain ⟨p, dx, l, sz, tap, rfl, hp, hl, hz, k⟩ := h
    refine ⟨_, pss_cons (ps_fld (pv 0) (pe_callTy call_tuple_of (by rfl) B.tuple bt_tuple (pa_cons (pe_fn N hr (pa_cons (pv 1) pa_nil)) pa_nil)) rfl)
      (pss_cons (ps_if (pt_not (pt_val (pe_callB call_isinst (by rfl) B.isinstance bt_isinstance (pa_cons (pv 2) (pa_cons (pe_bltn (v := .ty "bool") (by rfl) B.bool bt_bool rfl) pa_nil))))) pss_never pss_nil)
      (pss_one (ps_fld (pv 0) (pv 2) rfl))), ?_⟩
    refine ⟨_, rfl, l, sz, rfl, hl, hz, fun r H1 s1 hr1 => ?_⟩
    refine ⟨r, _, rfl, .inl ⟨SqL.of hr1, fun t nt => ?_⟩⟩
    have s2 : Same H (upd H1 t (.tup (sz.map V.int))) := s1.lay nt
    have tp : t ≠ p := fun e => by subst e; rw [s1 _ _ hp] at nt; cases nt
    refine ⟨_, rfl, p, CH, dx, [], rfl, s2 _ _ hp, C.cl, C.js, (by show 0 < 1000; decide), ?_⟩
    refine ⟨_, rfl, _, _, _, _, _, rfl, .ty "bool", .bl tap, kit_bb, _, rfl, iteF ?_⟩
    refine ⟨_, rfl, _, rfl, p, CH, dx, _, rfl, upd_same, C.cl, C.tap, (by show 1 < 1000; decide), ?_⟩
    refine k _ (fun c o e hc => by rw [upd_ne hc, upd_ne hc]; exact s2 _ _ e) ⟨dx, t, upd_same, ?_⟩
    rw [upd_ne tp, upd_ne tp, upd_same]
def sp_empty (CH : Addr) : Sp := fun vs H Q _ => ∃ p sz tap, vs = [.ref p] ∧ House CH H p sz tap ∧ Hz sz ∧ ∀ t H', Same H H' → H' t = some (.tup ((List.replicate sz.length (0 : Int)).map V.int)) → Q (.ref t) H'
theorem ok_empty {f : Addr} {fd : FuncData} (F : Fun K "empty" "House.empty" s_House_empty f fd) (B : Bt mg) (C : CHs K CH) : FnOk P w K mg base CX0 1 f fd ["self"] (sp_empty CH) := by
  refine F.ok sc_House_empty (fun vs H Q E h => ?_) (fun cdv A outer s H vs Q E hr h => ?_)
  · obtain ⟨p, sz, tap, rfl, _⟩ := h
    rfl
  · obtain ⟨p, sz, tap, rfl, ⟨dx, t, hp, ht⟩, hz, k⟩ := h
    refine ⟨_, pss_one (ps_ret (pe_callTy call_tuple_of (by rfl) B.tuple bt_tuple (pa_cons (pe_lc sc_House_empty [] (pi_tup (pe_fld (pv 0) rfl)) (fun _ _ _ _ _ _ => ⟨pif_nil, pe_int⟩)) pa_nil))), ?_⟩
    have h4 := hz.l4
    refine ⟨_, rfl, p, CH, dx, _, _, rfl, hp, C.cl, C.js, hF_js _ _, t, rfl, ⟨_, SqT.of ht⟩, lc_tup (xs := sz.map V.int) (fun i ys H' => ys = List.replicate i (.int 0) ∧ H' = H) ⟨rfl, rfl⟩ (by rw [List.length_map]; exact small1000 (by omega)) (fun i ys H' ⟨e, _⟩ => by rw [e]; simp)
      (fun i ys H' _ ⟨_, e⟩ => by subst e; exact SqT.of ht) (fun i x ys H' hx ⟨e1, e2⟩ => ?_) (fun ys H' ⟨e1, e2⟩ => ?_)⟩
    · subst e1 e2
      refine tYes_of ⟨?_, rfl⟩
      rw [List.replicate_succ']
    · subst e1 e2
      intro D nD
      refine ⟨D, _, rfl, .inl ⟨SqL.of upd_same, fun t' nt' => k t' _ ((Same.new nD).lay nt') ?_⟩⟩
      rw [upd_same, List.length_map, List.map_replicate]
end
end Jug

namespace Jug
open PySem L2
/-! ### all moves, all states -/
def row (n a : Nat) : List J.Mv := ((List.range n).filter fun b => b != a).map fun b => J.Mv.pour a b
def rowTo (a j : Nat) : List J.Mv := ((List.range j).filter fun b => b != a).map fun b => J.Mv.pour a b
theorem rowTo_len (a j : Nat) : (rowTo a j).length ≤ j := by
  unfold rowTo
  rw [List.length_map]
  exact Nat.le_trans (List.length_filter_le _ _) (by simp)
theorem rowTo_eq (a j : Nat) : rowTo a (j + 1) = rowTo a j ++ (if j = a then [] else [J.Mv.pour a j]) := by
  unfold rowTo
  rw [List.range_succ, List.filter_append, List.map_append]
  congr 1
  by_cases h : j = a
  · simp [h]
  · simp [h]
theorem rows_len (n : Nat) : ∀ i, ((List.range i).flatMap (row n)).length ≤ i * n
  | 0 => by simp
  | i + 1 => by
    rw [List.range_succ, List.flatMap_append, List.length_append]
    have := rows_len n i
    have h2 := rowTo_len i n
    simp only [List.flatMap_cons, List.flatMap_nil, List.append_nil]
    have h3 : (row n i).length = (rowTo i n).length := rfl
    rw [Nat.succ_mul]
    omega
theorem Paired.snocP {α β : Type} {F : α → β → Prop} {a : α} {b : β} {l₁ : List α} {l₂ : List β} (h : Paired F l₁ l₂) (h' : F a b) : Paired F (l₁ ++ [a]) (l₂ ++ [b]) := PySem.Paired.snoc h h'
theorem Paired.appP {α β : Type} {F : α → β → Prop} : ∀ {l₁ m₁ : List α} {l₂ m₂ : List β}, Paired F l₁ l₂ → Paired F m₁ m₂ → Paired F (l₁ ++ m₁) (l₂ ++ m₂)
  | _, _, _, _, .nil, h => h
  | _, _, _, _, .cons r t, h => .cons r (Paired.appP t h)
section
variable {P : Program} {w : World} {K : PySem.W.Frag} {mg : Str → Option Value} {base : Heap} {CH : Addr} {Z : Cz}
def sp_pours_among (Z : Cz) : Sp := fun vs H Q _ => ∃ n : Nat, vs = [.int n] ∧ n ≤ 4 ∧ ∀ r H' xs, Same H H' → H r = none → H' r = some (.lst xs) → Paired (isM Z H') xs (J.pours n) → Q (.ref r) H'
theorem ok_pours_among {f : Addr} {fd : FuncData} (F : Fun K "pours_among" "pours_among" s_pours_among f fd) (B : Bt mg) (M : MkB P w K mg base 4 "Pour" Z.P ["self", "one", "other"] (sp_Pour_init Z)) :
    FnOk P w K mg base CX0 6 f fd ["many"] (sp_pours_among Z) := by
  refine F.ok sc_pours_among (fun vs H Q E h => ?_) (fun cdv A outer s H vs Q E hr h => ?_)
  · obtain ⟨n, rfl, _⟩ := h
    rfl
  · obtain ⟨n, rfl, hn, k⟩ := h
    refine ⟨_, pss_cons (ps_set (i := 1) sc_pours_among.nd rfl (Or.inl rfl) (pe_lst pa_nil))
      (pss_cons (ps_for PassesOwn.never rfl (pi_range1 (by rfl) B.range (pa_cons (pv 0) pa_nil)) (pg_name (i := 2) sc_pours_among.nd rfl (Or.inl rfl))
        (pss_one (ps_for PassesOwn.never rfl (pi_range1 (by rfl) B.range (pa_cons (pv 0) pa_nil)) (pg_name (i := 3) sc_pours_among.nd rfl (Or.inl rfl))
          (pss_one (ps_if (pt_cmpR op_ne (pv 2) (pv 3) (nomark _)) (pss_one (ps_expr (pe_append (pv 1) (pe_mk M hr (pa_cons (pv 2) (pa_cons (pv 3) pa_nil)))))) pss_nil)))))
      (pss_one (ps_ret (pv 1)))), ?_⟩
    refine ⟨(by show 0 ≤ sizeLine; decide), fun r nr => ?_⟩
    have s1 : Same H (upd H r (.lst [])) := Same.new nr
    refine ⟨_, rfl, (n : Int), rfl, by omega, by omega, for_rangeN (n := n) (fun i σ H' => ∃ xs v2 v3, σ = [some (.int n), some (.ref r), v2, v3] ∧ Same H H' ∧ H' r = some (.lst xs) ∧ Paired (isM Z H') xs ((List.range i).flatMap (row n)))
      ⟨[], none, none, rfl, s1, upd_same, .nil⟩ ?_ ?_⟩
    · rintro i σ H1 hi ⟨xs, v2, v3, rfl, s2, e2, p2⟩
      refine ⟨_, rfl, (n : Int), rfl, by omega, by omega, for_rangeN (n := n) (fun j σ H' => ∃ xs v3, σ = [some (.int n), some (.ref r), some (.int i), v3] ∧ Same H H' ∧ H' r = some (.lst xs) ∧ Paired (isM Z H') xs ((List.range i).flatMap (row n) ++ rowTo i j))
        ⟨xs, v3, rfl, s2, e2, by simpa [rowTo] using p2⟩ ?_ ?_⟩
      · rintro j σ H2 hj ⟨ys, v3, rfl, s3, e3, p3⟩
        refine ⟨_, rfl, _, rfl, rfl, _, rfl, ?_⟩
        by_cases hij : i = j
        · subst hij
          rw [decide_eq_true rfl]
          refine iteF ⟨ys, _, rfl, s3, e3, ?_⟩
          rw [rowTo_eq, if_pos rfl, List.append_nil]
          exact p3
        · rw [decide_eq_false (by simp; omega)]
          refine iteT ?_
          refine ⟨_, rfl, .inl ⟨rfl, _, SqL.of e3⟩, _, rfl, _, rfl, fun x dx nx ndx nex => ?_⟩
          refine ⟨x, dx, i, j, rfl, upd_same, by omega, by omega, hij, fun H4 kp hx => ⟨rfl, ?_⟩⟩
          have s4 : Same H2 H4 := fun c o e => kp c o (by rw [upd_ne (ne_of_none e nx), upd_ne (ne_of_none e ndx)]; exact e) (ne_of_none e nx)
          have hlen : ys.length ≤ 20 := by
            have h1 := p3.length
            have h2 := rows_len n i
            have h3 := rowTo_len i j
            rw [List.length_append] at h1
            have h4 : i * n ≤ 3 * 4 := Nat.mul_le_mul (by omega) hn
            omega
          refine ⟨r, _, _, rfl, rfl, s4 _ _ e3, small1000 (by omega), ?_⟩
          have fx1 : Fix H4 (upd H4 r (.lst (ys ++ [.ref x]))) := Fix.put (s4 _ _ e3) rfl
          refine ⟨_, _, rfl, (s3.trans s4).put nr, upd_same, ?_⟩
          rw [rowTo_eq, if_neg (fun e => hij e.symm), ← List.append_assoc]
          exact Paired.snocP (pm_fix p3 ((Fix.of s4).trans fx1)) ⟨x, rfl, dx, fx1 _ _ hx rfl⟩
      · rintro σ H2 ⟨ys, v3, rfl, s3, e3, p3⟩
        refine ⟨ys, _, _, rfl, s3, e3, ?_⟩
        rw [List.range_succ, List.flatMap_append]
        have e : (List.flatMap (row n) [i]) = rowTo i n := by simp [row, rowTo]
        rw [e]; exact p3
    · rintro σ H1 ⟨xs, v2, v3, rfl, s2, e2, p2⟩
      exact ⟨_, rfl, k r H1 xs s2 nr e2 p2⟩
def sp_moves (Z : Cz) (CH : Addr) : Sp := fun vs H Q _ => ∃ p sz tap, vs = [.ref p] ∧ House CH H p sz tap ∧ Hz sz ∧ ∀ r H' ys, Same H H' → H r = none → H' r = some (.lst ys) → Paired (isM Z H') ys (J.moves sz.length tap) → Q (.ref r) H'
theorem ok_moves {f : Addr} {fd : FuncData} (F : Fun K "moves" "House.moves" s_House_moves f fd) (B : Bt mg) (C : CHs K CH) (W : FnB P w K mg base 6 "pours_among" ["many"] (sp_pours_among Z))
    (MF : MkB P w K mg base 4 "Fill" Z.F ["self", "jug"] (sp_jug_init Z.F)) (ME : MkB P w K mg base 4 "Empty" Z.E ["self", "jug"] (sp_jug_init Z.E)) : FnOk P w K mg base CX0 7 f fd ["self"] (sp_moves Z CH) := by
  refine F.ok sc_House_moves (fun vs H Q E h => ?_) (fun cdv A outer s H vs Q E hr h => ?_)
  · obtain ⟨p, sz, tap, rfl, _⟩ := h
    rfl
  · obtain ⟨p, sz, tap, rfl, ⟨dx, t, hp, ht⟩, hz, k⟩ := h
    have hr5 : Room 5 _ := hr.mono (by decide)
    refine ⟨_, pss_cons (ps_set (i := 1) sc_House_moves.nd rfl (Or.inl rfl) (pe_callB call_len_seq (by rfl) B.len PySem.boot_len (pa_cons (pe_fld (pv 0) rfl) pa_nil)))
      (pss_cons (ps_set (i := 2) sc_House_moves.nd rfl (Or.inl rfl) (pe_fn W hr (pa_cons (pv 1) pa_nil)))
      (pss_cons (ps_if (pt_val (pe_fld (pv 0) rfl))
        (pss_cons (ps_expr (pe_extend (pv 2) (pe_lc sc_House_moves [] (pi_range1 (by rfl) B.range (pa_cons (pv 1) pa_nil)) (fun _ _ _ _ _ _ => ⟨pif_nil, pe_mk MF hr5 (pa_cons (pv 0) pa_nil)⟩))))
        (pss_one (ps_expr (pe_extend (pv 2) (pe_lc sc_House_moves [] (pi_range1 (by rfl) B.range (pa_cons (pv 1) pa_nil)) (fun _ _ _ _ _ _ => ⟨pif_nil, pe_mk ME hr5 (pa_cons (pv 0) pa_nil)⟩)))))) pss_nil)
      (pss_one (ps_ret (pv 2))))), ?_⟩
    have h4 := hz.l4
    refine ⟨_, rfl, p, CH, dx, _, _, rfl, hp, C.cl, C.js, hF_js _ _, t, _, rfl, .inr (SqT.of ht), ?_⟩
    rw [List.length_map]
    refine ⟨_, rfl, sz.length, rfl, h4, fun r H1 xs s1 nr e1 p1 => ?_⟩
    refine ⟨_, rfl, p, CH, dx, _, _, rfl, s1 _ _ hp, C.cl, C.tap, hF_tap _ _, _, rfl, ?_⟩
    have hlp : (J.pours sz.length).length ≤ 16 := by
      have h5 := rows_len sz.length sz.length
      have h6 : sz.length * sz.length ≤ 4 * 4 := Nat.mul_le_mul h4 h4
      exact Nat.le_trans h5 h6
    cases tap with
    | false =>
      refine iteF ⟨_, rfl, k r H1 xs s1 nr e1 ?_⟩
      simpa [J.moves] using p1
    | true =>
      refine iteT ?_
      -- told.extend([Fill(jug) ..])
      refine ⟨_, rfl, .inl ⟨rfl, _, SqL.of e1⟩, _, rfl, _, rfl, by omega, by omega, ?_⟩
      rw [Int.toNat_natCast]
      refine lc_rangeN (n := sz.length) (fun i ys H' => Same H1 H' ∧ Paired (isM Z H') ys ((List.range i).map J.Mv.fill)) ⟨Same.refl _, .nil⟩ (small1000 (by omega)) (fun i ys H' ⟨_, q⟩ => by rw [q.length]; simp) ?_ ?_
      · rintro i ys H2 hi ⟨s2, p2⟩
        refine tYes_of ⟨_, rfl, fun x dx' nx ndx nex => ⟨x, dx', i, rfl, upd_same, by omega, fun H4 kp hx => ⟨rfl, ?_⟩⟩⟩
        have s4 : Same H2 H4 := fun c o e => kp c o (by rw [upd_ne (ne_of_none e nx), upd_ne (ne_of_none e ndx)]; exact e) (ne_of_none e nx)
        refine ⟨s2.trans s4, ?_⟩
        rw [List.range_succ, List.map_append]
        exact Paired.snocP (pm_fix p2 (Fix.of s4)) ⟨x, rfl, dx', hx⟩
      · rintro ys H2 ⟨s2, p2⟩ D nD
        have s3 : Same H2 (upd H2 D (.lst ys)) := Same.new nD
        have e3 := s3 _ _ (s2 _ _ e1)
        have l1 := p1.length
        have l2 := p2.length
        rw [List.length_map, List.length_range] at l2
        refine ⟨r, D, xs, ys, rfl, rfl, e3, upd_same, Nat.le_of_lt (small1000 (by omega)), ?_⟩
        have f3 : Fix (upd H2 D (.lst ys)) (upd (upd H2 D (.lst ys)) r (.lst (xs ++ ys))) := Fix.put e3 rfl
        have s4 : Same H (upd (upd H2 D (.lst ys)) r (.lst (xs ++ ys))) := ((s1.trans s2).trans s3).put nr
        have p3 : Paired (isM Z (upd (upd H2 D (.lst ys)) r (.lst (xs ++ ys)))) (xs ++ ys) (J.pours sz.length ++ (List.range sz.length).map J.Mv.fill) :=
          Paired.appP (pm_fix p1 ((Fix.of (s2.trans s3)).trans f3)) (pm_fix p2 ((Fix.of s3).trans f3))
        refine ⟨_, rfl, .inl ⟨rfl, _, SqL.of upd_same⟩, _, rfl, _, rfl, by omega, by omega, ?_⟩
        rw [Int.toNat_natCast]
        refine lc_rangeN (n := sz.length) (fun i zs H' => Same (upd (upd H2 D (.lst ys)) r (.lst (xs ++ ys))) H' ∧ Paired (isM Z H') zs ((List.range i).map J.Mv.emp)) ⟨Same.refl _, .nil⟩ (small1000 (by omega)) (fun i ys H' ⟨_, q⟩ => by rw [q.length]; simp) ?_ ?_
        · rintro i zs H5 hi ⟨s5, p5⟩
          refine tYes_of ⟨_, rfl, fun x dx' nx ndx nex => ⟨x, dx', i, rfl, upd_same, by omega, fun H6 kp hx => ⟨rfl, ?_⟩⟩⟩
          have s6 : Same H5 H6 := fun c o e => kp c o (by rw [upd_ne (ne_of_none e nx), upd_ne (ne_of_none e ndx)]; exact e) (ne_of_none e nx)
          refine ⟨s5.trans s6, ?_⟩
          rw [List.range_succ, List.map_append]
          exact Paired.snocP (pm_fix p5 (Fix.of s6)) ⟨x, rfl, dx', hx⟩
        · rintro zs H5 ⟨s5, p5⟩ D2 nD2
          have s6 : Same H5 (upd H5 D2 (.lst zs)) := Same.new nD2
          have e6 := s6 _ _ (s5 _ _ upd_same)
          have l5 := p5.length
          rw [List.length_map, List.length_range] at l5
          refine ⟨r, D2, _, zs, rfl, rfl, e6, upd_same, Nat.le_of_lt (small1000 (by rw [List.length_append]; omega)), ?_⟩
          have f6 : Fix (upd H5 D2 (.lst zs)) (upd (upd H5 D2 (.lst zs)) r (.lst ((xs ++ ys) ++ zs))) := Fix.put e6 rfl
          refine ⟨_, rfl, k r _ _ (((s4.trans s5).trans s6).put nr) nr upd_same ?_⟩
          have e7 : J.moves sz.length true = (J.pours sz.length ++ (List.range sz.length).map J.Mv.fill) ++ (List.range sz.length).map J.Mv.emp := by simp [J.moves]
          rw [e7]
          exact Paired.appP (pm_fix p3 ((Fix.of (s5.trans s6)).trans f6)) (pm_fix p5 ((Fix.of s6).trans f6))
end
end Jug

namespace Jug
open PySem L2
/-! ### the walk -/
def kOf (st : List Int) : List Key := st.map Sum.inl
theorem kOf_map (st : List Int) : (kOf st).map kV = st.map V.int := by
  unfold kOf
  rw [List.map_map]
  rfl
theorem kOf_inj {a b : List Int} (h : kOf a = kOf b) : a = b := by
  unfold kOf at h
  exact List.map_inj_right (fun x y e => Sum.inl.inj e) |>.mp h
/-- what stands in the dict beside a state -/
def WVal (Z : Cz) (H : Hp) (W : List J.Way) : V → Option (Nat × J.Mv) → Prop
  | v, none => v = .non
  | v, some (q, m) => ∃ t a p x, v = .ref t ∧ H t = some (.tup [.ref a, .ref p]) ∧ W[q]? = some x ∧ H a = some (.tup (x.1.map V.int)) ∧ MvAt Z H p m
def WD (Z : Cz) (H : Hp) (W : List J.Way) : List (List Key × V) → List J.Way → Prop := Paired fun kv x => kv.1 = kOf x.1 ∧ WVal Z H W kv.2 x.2
theorem WVal.fix {Z : Cz} {H H' : Hp} {W : List J.Way} {v : V} : ∀ {o : Option (Nat × J.Mv)}, WVal Z H W v o → Fix H H' → WVal Z H' W v o
  | none, h, _ => h
  | some (_, _), ⟨t, a, p, x, e, h1, h2, h3, h4⟩, s => ⟨t, a, p, x, e, s _ _ h1 rfl, h2, s _ _ h3 rfl, h4.fix s⟩
theorem WVal.more {Z : Cz} {H : Hp} {W V' : List J.Way} {v : V} : ∀ {o : Option (Nat × J.Mv)}, WVal Z H W v o → WVal Z H (W ++ V') v o
  | none, h => h
  | some (_, _), ⟨t, a, p, x, e, h1, h2, h3, h4⟩ => ⟨t, a, p, x, e, h1, by rw [List.getElem?_append_left (List.getElem?_eq_some_iff.mp h2).1]; exact h2, h3, h4⟩
theorem WD.fix {Z : Cz} {H H' : Hp} {W : List J.Way} {kvs : List (List Key × V)} {ws : List J.Way} (h : WD Z H W kvs ws) (s : Fix H H') : WD Z H' W kvs ws := Paired.mapP h fun _ _ z => ⟨z.1, z.2.fix s⟩
theorem WD.more {Z : Cz} {H : Hp} {W V' : List J.Way} {kvs : List (List Key × V)} {ws : List J.Way} (h : WD Z H W kvs ws) : WD Z H (W ++ V') kvs ws := Paired.mapP h fun _ _ z => ⟨z.1, z.2.more⟩
theorem WD.keys {Z : Cz} {H : Hp} {W : List J.Way} : ∀ {kvs : List (List Key × V)} {ws : List J.Way}, WD Z H W kvs ws → kvs.map (·.1) = ws.map fun x => kOf x.1
  | _, _, .nil => rfl
  | _, _, .cons h t => by rw [List.map_cons, List.map_cons, WD.keys t, h.1]
theorem WD.has {Z : Cz} {H : Hp} {W : List J.Way} {kvs : List (List Key × V)} {ws : List J.Way} (h : WD Z H W kvs ws) (y : List Int) : (valV kvs (kOf y)).isSome = decide (y ∈ ws.map (·.1)) := by
  rw [← valV_any, Bool.eq_iff_iff]
  simp only [List.any_eq_true, decide_eq_true_iff]
  constructor
  · rintro ⟨kv, h1, h2⟩
    have : kOf y ∈ kvs.map (·.1) := List.mem_map.mpr ⟨kv, h1, h2⟩
    rw [h.keys] at this
    obtain ⟨x, h3, h4⟩ := List.mem_map.mp this
    exact List.mem_map.mpr ⟨x, h3, kOf_inj h4⟩
  · intro hy
    obtain ⟨x, h3, h4⟩ := List.mem_map.mp hy
    have : kOf y ∈ kvs.map (·.1) := by rw [h.keys]; exact List.mem_map.mpr ⟨x, h3, by rw [h4]⟩
    obtain ⟨kv, h1, h2⟩ := List.mem_map.mp this
    exact ⟨kv, h1, h2⟩
/-- the walk so far, in the heap -/
def WS (Z : Cz) (Hb H' : Hp) (d rw : Addr) (W : List J.Way) : Prop := ∃ kvs rs, Same Hb H' ∧ H' d = some (.dT kvs) ∧ H' rw = some (.lst rs) ∧ Paired (isTI H') rs (W.map (·.1)) ∧ WD Z H' W kvs W
theorem WS.same {Z : Cz} {Hb H' H'' : Hp} {d rw : Addr} {W : List J.Way} (h : WS Z Hb H' d rw W) (s : Same H' H'') : WS Z Hb H'' d rw W := by
  obtain ⟨kvs, rs, s0, e1, e2, p, wd⟩ := h
  exact ⟨kvs, rs, s0.trans s, s _ _ e1, s _ _ e2, pt_fix p (Fix.of s), wd.fix (Fix.of s)⟩
theorem ws_add {Z : Cz} {Hb H' : Hp} {d rw tt a p bb : Addr} {W : List J.Way} {kvs : List (List Key × V)} {rs : List V} {q : Nat} {m : J.Mv} {x : J.Way} {y : List Int} (nd : Hb d = none) (nr : Hb rw = none) (s0 : Same Hb H') (e1 : H' d = some (.dT kvs))
    (e2 : H' rw = some (.lst rs)) (p1 : Paired (isTI H') rs (W.map (·.1))) (wd : WD Z H' W kvs W) (nt : H' tt = none) (hx : W[q]? = some x) (ha : H' a = some (.tup (x.1.map V.int))) (hm : MvAt Z H' p m) (hb : H' bb = some (.tup (y.map V.int))) :
    WS Z Hb (upd (upd (upd H' tt (.tup [.ref a, .ref p])) d (.dT (kvs ++ [(kOf y, .ref tt)]))) rw (.lst (rs ++ [.ref bb]))) d rw (W ++ [(y, some (q, m))]) ∧ Fix H' (upd (upd (upd H' tt (.tup [.ref a, .ref p])) d (.dT (kvs ++ [(kOf y, .ref tt)]))) rw (.lst (rs ++ [.ref bb]))) := by
  have dtt : d ≠ tt := ne_of_none e1 nt
  have rtt : rw ≠ tt := ne_of_none e2 nt
  have drw : d ≠ rw := ne_of e1 e2 (by intro h; cases h)
  have g1 : (upd H' tt (.tup [.ref a, .ref p])) d = some (.dT kvs) := by rw [upd_ne dtt]; exact e1
  have g2 : (upd (upd H' tt (.tup [.ref a, .ref p])) d (.dT (kvs ++ [(kOf y, .ref tt)]))) rw = some (.lst rs) := by rw [upd_ne drw.symm, upd_ne rtt]; exact e2
  have f1 : Fix H' (upd (upd (upd H' tt (.tup [.ref a, .ref p])) d (.dT (kvs ++ [(kOf y, .ref tt)]))) rw (.lst (rs ++ [.ref bb]))) := ((Fix.of (Same.new nt)).trans (Fix.put g1 rfl)).trans (Fix.put g2 rfl)
  refine ⟨⟨kvs ++ [(kOf y, .ref tt)], rs ++ [.ref bb], ((s0.lay nt).put nd).put nr, ?_, upd_same, ?_, ?_⟩, f1⟩
  · rw [upd_ne drw, upd_same]
  · rw [List.map_append]
    exact Paired.snocP (pt_fix p1 f1) ⟨bb, rfl, f1 _ _ hb rfl⟩
  · refine Paired.snocP (wd.fix f1).more ⟨rfl, tt, a, p, x, rfl, ?_, ?_, f1 _ _ ha rfl, hm.fix f1⟩
    · rw [upd_ne rtt.symm, upd_ne dtt.symm, upd_same]
    · rw [List.getElem?_append_left (List.getElem?_eq_some_iff.mp hx).1]
      exact hx
theorem addAll_pre {sz here : List Int} {p : Nat} {i : Nat} {y : J.Way} : ∀ (ms : List J.Mv) {W : List J.Way}, W[i]? = some y → (J.addAll sz here p ms W)[i]? = some y
  | [], _, h => h
  | _ :: ms, _, h => addAll_pre ms (J.addOne_pre h)
theorem addAll_take {sz here : List Int} {p : Nat} {W : List J.Way} {ms : List J.Mv} {j : Nat} {m : J.Mv} (h : ms[j]? = some m) : J.addAll sz here p (ms.take (j + 1)) W = J.addOne sz here p (J.addAll sz here p (ms.take j) W) m := by
  rw [List.take_add_one, h]
  simp [J.addAll]
theorem addAll_len {sz here : List Int} {p : Nat} : ∀ (ms : List J.Mv) {W : List J.Way}, (J.addAll sz here p ms W).length ≤ W.length + ms.length
  | [], _ => Nat.le_refl _
  | m :: ms, W => by
    have h1 := addAll_len (sz := sz) (here := here) (p := p) ms (W := J.addOne sz here p W m)
    have h2 : (J.addOne sz here p W m).length ≤ W.length + 1 := by
      unfold J.addOne
      split
      · omega
      · simp
    have h3 : J.addAll sz here p (m :: ms) W = J.addAll sz here p ms (J.addOne sz here p W m) := rfl
    rw [h3, List.length_cons]
    omega
theorem moves_len : ∀ n, n < 5 → ∀ tap, (J.moves n tap).length ≤ 20 := by decide +kernel
section
variable {P : Program} {w : World} {K : PySem.W.Frag} {mg : Str → Option Value} {base : Heap} {CH : Addr} {Z : Cz}
def sp_ways (Z : Cz) (CH : Addr) : Sp := fun vs H Q _ => ∃ p a sz tap st, vs = [.ref p, .ref a] ∧ House CH H p sz tap ∧ Hz sz ∧ H a = some (.tup (st.map V.int)) ∧ J.IsSt sz st ∧
  ∀ d H' kvs, Same H H' → H d = none → H' d = some (.dT kvs) → WD Z H' (J.ways sz (J.moves sz.length tap) st) kvs (J.ways sz (J.moves sz.length tap) st) → Q (.ref d) H'
theorem ok_ways {f : Addr} {fd : FuncData} (F : Fun K "ways_from" "ways_from" s_ways_from f fd) (B : Bt mg) (N : FnB P w K mg base 2 "held_in" ["house", "state"] (sp_held_in CH)) (MO : MeB P w K mg base 7 CH "moves" ["self"] (sp_moves Z CH))
    (D : ∀ C, anyMv Z C → MeB P w K mg base 5 C "done" ["self", "house", "state"] (sp_done Z CH)) : FnOk P w K mg base CX0 8 f fd ["house", "state"] (sp_ways Z CH) := by
  refine F.ok sc_ways_from (fun vs H Q E h => ?_) (fun cdv A outer s H vs Q E hr h => ?_)
  · obtain ⟨p, a, sz, tap, st, rfl, _⟩ := h
    rfl
  · obtain ⟨p, a, sz, tap, st, rfl, hh, hz, ha, hst, k⟩ := h
    have hu := hr.units
    refine ⟨_, pss_cons (ps_set (i := 2) sc_ways_from.nd rfl (Or.inl rfl) (pe_callTy call_tuple_of (by rfl) B.tuple bt_tuple (pa_cons (pe_fn N (hr.mono (by decide)) (pa_cons (pv 0) (pa_cons (pv 1) pa_nil))) pa_nil)))
      (pss_cons (ps_set (i := 3) sc_ways_from.nd rfl (Or.inl rfl) (pe_me0 MO (pv 0) (hr.mono (by decide))))
      (pss_cons (ps_set (i := 4) sc_ways_from.nd rfl (Or.inl rfl) (pe_disp1T hr.units0 (pv 2) pe_non))
      (pss_cons (ps_set (i := 5) sc_ways_from.nd rfl (Or.inl rfl) (pe_lst (pa_cons (pv 2) pa_nil)))
      (pss_cons (ps_set (i := 6) sc_ways_from.nd rfl (Or.inl rfl) pe_int)
      (pss_cons (ps_while PassesOwn.never (pt_cmpR op_lt (pv 6) (pe_callB call_len_seq (by rfl) B.len PySem.boot_len (pa_cons (pv 5) pa_nil)) (nomark _))
        (pss_cons (ps_set (i := 7) sc_ways_from.nd rfl (Or.inl rfl) (pe_ix ix_list (pv 5) (pv 6) (fun _ _ => rfl)))
        (pss_cons (ps_for PassesOwn.never rfl (pi_list (pv 3)) (pg_name (i := 8) sc_ways_from.nd rfl (Or.inl rfl))
          (pss_cons (ps_set (i := 9) sc_ways_from.nd rfl (Or.inl rfl) (pe_meU D (pv 8) (hr.mono (by decide)) (pa_cons (pv 0) (pa_cons (pv 7) pa_nil))))
          (pss_one (ps_if (pt_cmp (pc_dnotin (Nat.lt_of_le_of_lt (Nat.add_le_add_left (by decide) _) hu) (pv 9) (pv 4)) rfl)
            (pss_cons (ps_dput (Nat.lt_of_le_of_lt (Nat.add_le_add_left (by decide) _) hu) (pv 4) (pv 9) (pe_tup (pa_cons (pv 7) (pa_cons (pv 8) pa_nil))) rfl) (pss_one (ps_expr (pe_append (pv 5) (pv 9)))))
            pss_nil))))
        (pss_one (ps_aug (i := 6) sc_ways_from.nd rfl (Or.inl rfl) pe_int ip_add)))))
      (pss_one (ps_ret (pv 4)))))))), ?_⟩
    obtain ⟨dx, tz, hp, htz⟩ := id hh
    refine ⟨_, rfl, _, rfl, p, sz, tap, a, st, rfl, hh, ha, hst, fun y H2 s2 ny ey => ?_⟩
    refine ⟨y, _, rfl, .inl ⟨SqL.of ey, fun t nt => ?_⟩⟩
    have s3 : Same H (upd H2 t (.tup (st.map V.int))) := s2.lay nt
    refine ⟨_, rfl, p, dx, _, rfl, s3 _ _ hp, hF_no _ _ (by decide +kernel) (by decide +kernel), p, sz, tap, rfl, hh.mono s3, hz, fun r H4 ys s4 nr er pm => ?_⟩
    have et : H4 t = some (.tup (st.map V.int)) := s4 _ _ upd_same
    refine fun d nd => ⟨_, rfl, kOf st, t, rfl, ?_, upd_same, ?_⟩
    · rw [upd_ne (ne_of_none et nd), kOf_map]
      exact et
    rw [upd_upd]
    refine ⟨_, rfl, (by show 1 ≤ sizeLine; decide), fun rw nrw => ?_⟩
    have drw : d ≠ rw := fun e => by subst e; rw [upd_same] at nrw; cases nrw
    have nrw4 : H4 rw = none := by rwa [upd_ne drw.symm] at nrw
    have nd0 : H d = none := by
      cases e : H d with
      | none => rfl
      | some o => have := (s3.trans s4) _ _ e; rw [nd] at this; cases this
    have hg := J.good_moves (tap := tap) hz.nn
    have hle := hz.states_le
    refine ⟨fun n σ H' => ∃ (pl : Nat) (v7 v8 v9 : Option V), σ = [some (.ref p), some (.ref a), some (.ref t), some (.ref r), some (.ref d), some (.ref rw), some (.int pl), v7, v8, v9] ∧ WS Z H4 H' d rw (J.run sz (J.moves sz.length tap) st pl) ∧ n = (J.states sz).length - pl,
      ⟨_, 0, none, none, none, rfl, ⟨[(kOf st, .non)], [.ref t], ((Same.refl _).put nd).put nrw4, (by rw [upd_ne drw, upd_same]), upd_same, .cons ⟨t, rfl, ?_⟩ .nil, .cons ⟨rfl, rfl⟩ .nil⟩, rfl⟩, ?_⟩
    · rw [upd_ne (ne_of_none et nrw4), upd_ne (ne_of_none et nd)]
      exact et
    rintro n σ H' ⟨pl, v7, v8, v9, rfl, ws, rfl⟩
    obtain ⟨kvs, rs, s5, e1, e2, p1, wd⟩ := id ws
    have hl : rs.length = (J.run sz (J.moves sz.length tap) st pl).length := by have := p1.length; simpa using this
    have rl := J.run_le hg hst pl
    refine ⟨_, rfl, _, rfl, rw, _, rfl, .inl (SqL.of e2), _, _, rfl, rfl, _, rfl, ?_⟩
    by_cases c : (pl : Int) < (rs.length : Int)
    · rw [decide_eq_true c]
      obtain ⟨x, hx⟩ : ∃ x, (J.run sz (J.moves sz.length tap) st pl)[pl]? = some x := ⟨_, List.getElem?_eq_getElem (by omega)⟩
      have hv : rs[pl]? = some (rs[pl]'(by omega)) := by simp
      obtain ⟨z, hz', aa, eaa, haa⟩ := L2.Paired.get p1 hv
      rw [List.getElem?_map, hx] at hz'
      cases hz'
      rw [eaa] at hv
      have hxs : J.IsSt sz x.1 := (J.run_inv hg hst pl).sts x (List.mem_of_getElem? hx)
      refine iteT ⟨fun σ' H'' => ∃ v8 v9 : Option V, σ' = [some (.ref p), some (.ref a), some (.ref t), some (.ref r), some (.ref d), some (.ref rw), some (.int ((pl : Int) + 1)), some (.ref aa), v8, v9] ∧ WS Z H4 H'' d rw (J.run sz (J.moves sz.length tap) st (pl + 1)),
        fun σ' H'' ⟨v8, v9, e, w'⟩ => ⟨_, by omega, pl + 1, _, v8, v9, e, w', rfl⟩, ?_⟩
      refine ⟨_, rfl, _, rfl, rw, _, _, _, rfl, rfl, SqL.of e2, atI_nat hv, ?_⟩
      refine ⟨_, rfl, r, rfl, ⟨_, SqL.of (s5 _ _ er)⟩, for_list (K := K) (a := r) (xs := ys) (fun j σ H'' => ∃ v8 v9 : Option V, σ = [some (.ref p), some (.ref a), some (.ref t), some (.ref r), some (.ref d), some (.ref rw), some (.int pl), some (.ref aa), v8, v9] ∧ H'' aa = some (.tup (x.1.map V.int)) ∧
        WS Z H4 H'' d rw (J.addAll sz x.1 pl ((J.moves sz.length tap).take j) (J.run sz (J.moves sz.length tap) st pl))) ⟨v8, v9, rfl, haa, by simpa [J.addAll] using ws⟩ (fun j σ H'' _ ⟨_, _, _, _, _, _, s6, _⟩ => SqL.of (s6 _ _ er)) ?_ ?_⟩
      · rintro j v σ H6 hv' ⟨v8, v9, rfl, ha6, ws6⟩
        obtain ⟨m, hm, pp, rfl, hmv⟩ := L2.Paired.get pm hv'
        obtain ⟨_, _, s6, _⟩ := id ws6
        obtain ⟨dp, hpp⟩ := hmv.mono s6
        refine ⟨_, rfl, Z.cl m, pp, dp, _, anyMv_cl Z m, rfl, hpp, fsOf_no m (by decide +kernel) (by decide +kernel) (by decide +kernel), _, rfl, _, rfl, pp, p, aa, sz, tap, _, m, rfl, hmv.mono s6, hh.mono (s3.trans (s4.trans s6)), ha6, hxs, J.mem_moves.mp (List.mem_of_getElem? hm), fun bb H7 s7 e7 => ?_⟩
        have ws7 := ws6.same s7
        obtain ⟨kv7, rs7, s70, e71, e72, p71, wd7⟩ := id ws7
        refine ⟨_, rfl, _, rfl, d, _, rfl, DGet.t (k := kOf (J.behind sz x.1 m)) e71 (by rw [kOf_map]; exact e7), _, rfl, ?_⟩
        rw [addAll_take hm]
        rw [wd7.has]
        by_cases hin : J.behind sz x.1 m ∈ (J.addAll sz x.1 pl ((J.moves sz.length tap).take j) (J.run sz (J.moves sz.length tap) st pl)).map (·.1)
        · rw [decide_eq_true hin]
          refine iteF ⟨_, _, rfl, s7 _ _ ha6, ?_⟩
          unfold J.addOne
          rw [if_pos hin]
          exact ws7
        · have no := wd7.has (J.behind sz x.1 m)
          rw [decide_eq_false hin] at no
          rw [decide_eq_false hin]
          have hno : valV kv7 (kOf (J.behind sz x.1 m)) = none := by
            cases e : valV kv7 (kOf (J.behind sz x.1 m)) with
            | none => rfl
            | some v => rw [e] at no; cases no
          have l1 := wd7.length
          have l2 := addAll_len (sz := sz) (here := x.1) (p := pl) ((J.moves sz.length tap).take j) (W := J.run sz (J.moves sz.length tap) st pl)
          have l3 := moves_len sz.length (by have := hz.l4; omega) tap
          have l4 : ((J.moves sz.length tap).take j).length ≤ (J.moves sz.length tap).length := by rw [List.length_take]; exact Nat.min_le_right _ _
          have l5 := p71.length
          rw [List.length_map] at l5
          have g1 : ∀ tt, H7 tt = none → (upd H7 tt (.tup [.ref aa, .ref pp])) d = some (.dT kv7) := fun tt n => by rw [upd_ne (ne_of_none e71 n)]; exact e71
          refine iteT ⟨_, rfl, _, rfl, (by show 2 ≤ sizeLine; decide), fun tt ntt => ⟨_, rfl, _, rfl, d, _, rfl, DPut.t (k := kOf (J.behind sz x.1 m)) (g1 tt ntt) (by rw [kOf_map, upd_ne (ne_of_none e7 ntt)]; exact e7) (by rw [sizeLine_eq]; omega), ?_⟩⟩
          rw [putK_new _ hno]
          have drw7 : rw ≠ d := ne_of e72 e71 (by intro h; cases h)
          have g2 : (upd (upd H7 tt (.tup [.ref aa, .ref pp])) d (.dT (kv7 ++ [(kOf (J.behind sz x.1 m), .ref tt)]))) rw = some (.lst rs7) := by rw [upd_ne drw7, upd_ne (ne_of_none e72 ntt)]; exact e72
          refine ⟨_, rfl, .inl ⟨rfl, _, SqL.of g2⟩, _, rfl, rw, _, _, rfl, rfl, g2, (by rw [sizeLine_eq]; omega), ?_⟩
          obtain ⟨wsn, fxn⟩ := ws_add nd nrw4 s70 e71 e72 p71 wd7 ntt (addAll_pre _ hx) (s7 _ _ ha6) (hmv.mono (s6.trans s7)) e7
          refine ⟨_, _, rfl, fxn _ _ (s7 _ _ ha6) rfl, ?_⟩
          unfold J.addOne
          rw [if_neg hin]
          exact wsn
      · rintro σ H6 ⟨v8, v9, rfl, ha6, ws6⟩
        refine ⟨_, rfl, _, _, rfl, rfl, _, _, rfl, ?_⟩
        rw [J.run_step hx]
        rw [pm.length, List.take_length] at ws6
        exact ws6
    · rw [decide_eq_false c]
      refine ⟨_, rfl, k d H' kvs (s3.trans (s4.trans s5)) nd0 e1 ?_⟩
      rw [J.run_end hg hst (p := pl) (by omega)] at wd
      exact wd
end
end Jug

namespace Jug
open PySem L2
/-! ### the amounts measured -/
def addK (ks : List Int) (v : Int) : List Int := if v ∈ ks then ks else ks ++ [v]
theorem addK_nd {ks : List Int} (h : ks.Nodup) (v : Int) : (addK ks v).Nodup := by
  unfold addK
  split
  · exact h
  · rename_i hv
    rw [List.nodup_append]
    refine ⟨h, by simp, fun a ha b hb e => ?_⟩
    have : b = v := by simpa using hb
    subst this; subst e
    exact hv ha
theorem addK_mem {ks : List Int} {v x : Int} : x ∈ addK ks v ↔ x ∈ ks ∨ x = v := by
  unfold addK
  split
  · rename_i hv
    constructor
    · exact .inl
    · rintro (h | rfl)
      · exact h
      · exact hv
  · simp
theorem put_keys {kvs : List (Key × V)} {ks : List Int} (h : kvs.map (·.1) = ks.map Sum.inl) (v : Int) (u : V) : (putK kvs (Sum.inl v) u).map (·.1) = (addK ks v).map Sum.inl := by
  have e : (kvs.any fun kv => decide (kv.1 = Sum.inl v)) = decide (v ∈ ks) := by
    rw [Bool.eq_iff_iff]
    simp only [List.any_eq_true, decide_eq_true_iff]
    constructor
    · rintro ⟨kv, h1, h2⟩
      have : (Sum.inl v : Key) ∈ kvs.map (·.1) := List.mem_map.mpr ⟨kv, h1, h2⟩
      rw [h] at this
      obtain ⟨x, h3, h4⟩ := List.mem_map.mp this
      cases h4
      exact h3
    · intro hv
      have : (Sum.inl v : Key) ∈ kvs.map (·.1) := by rw [h]; exact List.mem_map.mpr ⟨v, hv, rfl⟩
      obtain ⟨kv, h1, h2⟩ := List.mem_map.mp this
      exact ⟨kv, h1, h2⟩
  unfold putK addK
  rw [e]
  by_cases hv : v ∈ ks
  · rw [if_pos (decide_eq_true hv), if_pos hv, ← h, List.map_map]
    refine List.map_congr_left fun kv _ => ?_
    show (if kv.1 = Sum.inl v then (kv.1, u) else kv).1 = kv.1
    split <;> rfl
  · rw [if_neg (by rw [decide_eq_false hv]; exact Bool.false_ne_true), if_neg hv, List.map_append, List.map_append, h]
    rfl
/-- what has been seen -/
def Am (H' : Hp) (am : Addr) (S : List Int) : Prop := ∃ (kvs : List (Key × V)) (ks : List Int), H' am = some (.dK kvs) ∧ kvs.map (·.1) = ks.map Sum.inl ∧ ks.Nodup ∧ (∀ v, v ∈ ks ↔ v ∈ S)
theorem ints_le {ks : List Int} (h : ks.Nodup) (hb : ∀ v ∈ ks, 0 ≤ v ∧ v ≤ 60) : ks.length ≤ 61 := by
  have := J.nodup_le ks ((List.range 61).map fun (n : Nat) => (n : Int)) h fun v hv => by
    obtain ⟨h1, h2⟩ := hb v hv
    exact List.mem_map.mpr ⟨v.toNat, List.mem_range.mpr (by omega), by omega⟩
  simpa using this
theorem st_bounds {sz st : List Int} (hz : Hz sz) (h : J.IsSt sz st) {v : Int} (hv : v ∈ st) : 0 ≤ v ∧ v ≤ 60 := by
  obtain ⟨i, hi, e⟩ := List.mem_iff_getElem.mp hv
  have hl := h.len
  have b := h.bnd i (by omega)
  have e1 : J.at0 st i = v := by unfold J.at0; simp [hi, e]
  have hi' : i < sz.length := by omega
  have e2 : J.at0 sz i ∈ sz := by unfold J.at0; simp [hi']
  have := hz.bd _ e2
  rw [e1] at b
  omega
theorem bt_sorted : bootBuiltins "sorted" = some (.builtin "sorted") := by decide +kernel
section
variable {P : Program} {w : World} {K : PySem.W.Frag} {mg : Str → Option Value} {base : Heap} {CH : Addr} {Z : Cz}
def sp_measured (CH : Addr) : Sp := fun vs H Q _ => ∃ p a sz tap st, vs = [.ref p, .ref a] ∧ House CH H p sz tap ∧ Hz sz ∧ H a = some (.tup (st.map V.int)) ∧ J.IsSt sz st ∧
  ∀ (l : Addr) (H' : Hp) (ys : List Int), Same H H' → H' l = some (.lst (ys.map V.int)) → ys.Nodup → ys.Pairwise (· ≤ ·) → (∀ v, v ∈ ys ↔ ∃ x ∈ J.ways sz (J.moves sz.length tap) st, v ∈ x.1) → Q (.ref l) H'
theorem ok_measured {f : Addr} {fd : FuncData} (F : Fun K "measured" "measured" s_measured f fd) (hs : mg "sorted" = none) (WY : FnB P w K mg base 8 "ways_from" ["house", "state"] (sp_ways Z CH)) : FnOk P w K mg base CX0 9 f fd ["house", "state"] (sp_measured CH) := by
  refine F.ok sc_measured (fun vs H Q E h => ?_) (fun cdv A outer s H vs Q E hr h => ?_)
  · obtain ⟨p, a, sz, tap, st, rfl, _⟩ := h
    rfl
  · obtain ⟨p, a, sz, tap, st, rfl, hh, hz, ha, hst, k⟩ := h
    have hu := hr.units
    refine ⟨_, pss_cons (ps_set (i := 2) sc_measured.nd rfl (Or.inl rfl) pe_dnewK)
      (pss_cons (ps_for PassesOwn.never rfl (pi_dt (pe_fn WY hr (pa_cons (pv 0) (pa_cons (pv 1) pa_nil)))) (pg_name (i := 3) sc_measured.nd rfl (Or.inl rfl))
        (pss_one (ps_for PassesOwn.never rfl (pi_tup (pv 3)) (pg_name (i := 4) sc_measured.nd rfl (Or.inl rfl))
          (pss_one (ps_dput (Nat.lt_of_le_of_lt (Nat.add_le_add_left (by decide) _) hu) (pv 2) (pv 4) pe_bl rfl)))))
      (pss_one (ps_ret (pe_callB (call_sorted_dk rfl) (by rfl) hs bt_sorted (pa_cons (pv 2) pa_nil))))), ?_⟩
    intro am nam
    have s1 : Same H (upd H am (.dK [])) := Same.new nam
    have hg := J.good_moves (tap := tap) hz.nn
    refine ⟨_, rfl, _, rfl, p, a, sz, tap, st, rfl, hh.mono s1, hz, s1 _ _ ha, hst, fun d H2 kvs s2 nd e2 wd => ⟨d, kvs, rfl, .inl ⟨e2, fun o => ?_⟩⟩⟩
    have nd0 : H d = none := by
      cases e : H d with
      | none => rfl
      | some o => have := s1 _ _ e; rw [nd] at this; cases this
    have amd : am ≠ d := fun e => by subst e; rw [upd_same] at nd; cases nd
    have bds : ∀ x ∈ J.ways sz (J.moves sz.length tap) st, ∀ v ∈ x.1, 0 ≤ v ∧ v ≤ 60 := fun x hx v hv => st_bounds hz ((J.ways_inv hg hst).sts x hx) hv
    have seen : ∀ (ks : List Int) (i : Nat), (∀ v, v ∈ ks ↔ v ∈ ((J.ways sz (J.moves sz.length tap) st).take i).flatMap (·.1)) → ∀ v ∈ ks, 0 ≤ v ∧ v ≤ 60 := fun ks i h v hv => by
      obtain ⟨x, hx, hv'⟩ := List.mem_flatMap.mp ((h v).mp hv)
      exact bds x (List.mem_of_mem_take hx) v hv'
    refine for_dt (a := d) (kvs := kvs) (o := o) (fun i σ H' => ∃ v3 v4 : Option V, σ = [some (.ref p), some (.ref a), some (.ref am), v3, v4] ∧ Same H H' ∧ H' d = some (.frz o (.dT kvs)) ∧ Am H' am (((J.ways sz (J.moves sz.length tap) st).take i).flatMap (·.1)))
      ⟨none, none, rfl, (s1.trans s2).put nd0, upd_same, [], [], (by rw [upd_ne amd]; exact s2 _ _ upd_same), rfl, .nil, fun v => by simp⟩ (fun i σ H' _ ⟨_, _, _, _, e, _⟩ => e) ?_ ?_
    · rintro i k' v b σ H' hk hb ⟨v3, v4, rfl, s4, ed, am4⟩
      obtain ⟨x, hx, ek, _⟩ := L2.Paired.get wd hk
      have ek' : k' = kOf x.1 := ek
      rw [ek', kOf_map] at hb
      have hxm := List.mem_of_getElem? hx
      refine ⟨_, rfl, b, rfl, ⟨_, SqT.of hb⟩, for_tup (K := K) (a := b) (xs := x.1.map V.int) (fun j σ H'' => ∃ v4 : Option V, σ = [some (.ref p), some (.ref a), some (.ref am), some (.ref b), v4] ∧ Same H H'' ∧ H'' d = some (.frz o (.dT kvs)) ∧ H'' b = some (.tup (x.1.map V.int)) ∧
        Am H'' am (((J.ways sz (J.moves sz.length tap) st).take i).flatMap (·.1) ++ x.1.take j)) ⟨v4, rfl, s4, ed, hb, by simpa using am4⟩ (fun j σ H'' _ ⟨_, _, _, _, e, _⟩ => SqT.of e) ?_ ?_⟩
      · rintro j y σ H6 hy ⟨v4, rfl, s6, ed6, hb6, kv6, ks6, e6, k6, n6, m6⟩
        rw [List.getElem?_map] at hy
        obtain ⟨z, hz1, rfl⟩ := Option.map_eq_some_iff.mp hy
        have hl : ks6.length ≤ 61 := ints_le n6 fun v hv => by
          rcases List.mem_append.mp ((m6 v).mp hv) with h | h
          · obtain ⟨x', hx', hv'⟩ := List.mem_flatMap.mp h
            exact bds x' (List.mem_of_mem_take hx') v hv'
          · exact bds x hxm v (List.mem_of_mem_take h)
        have lk : kv6.length = ks6.length := by have := congrArg List.length k6; simpa using this
        refine ⟨_, rfl, _, rfl, am, _, rfl, DPut.k (k := Sum.inl z) e6 (by rw [sizeLine_eq]; omega), ?_⟩
        refine ⟨_, rfl, s6.put nam, (by rw [upd_ne (ne_of ed6 e6 (by intro h; cases h))]; exact ed6), (by rw [upd_ne (ne_of hb6 e6 (by intro h; cases h))]; exact hb6), _, addK ks6 z, upd_same, put_keys k6 _ _, addK_nd n6 z, fun v => ?_⟩
        rw [addK_mem, m6, List.take_add_one, hz1]
        simp [or_assoc]
      · rintro σ H6 ⟨v4, rfl, s6, ed6, hb6, am6⟩
        refine ⟨_, _, rfl, s6, ed6, ?_⟩
        rw [List.length_map, List.take_length] at am6
        rw [List.take_add_one, hx]
        simpa using am6
    · rintro σ H' ⟨v3, v4, rfl, s4, ed, kv, ks, e, ek, nk, mem⟩
      have lw : kvs.length = (J.ways sz (J.moves sz.length tap) st).length := wd.length
      have hl : ks.length ≤ 61 := ints_le nk (seen ks _ mem)
      refine ⟨_, rfl, am, ks, rfl, ⟨kv, .inl e, ek⟩, by omega, fun l ys nl hp hs' => k l _ ys (s4.lay nl) upd_same (hp.nodup_iff.mpr nk) hs' fun v => ?_⟩
      rw [hp.mem_iff, mem, lw, List.take_length]
      simp
end
end Jug

namespace Jug
open PySem L2
theorem pI : ∀ st : List Int, Paired isI (st.map V.int) st
  | [] => .nil
  | _ :: st => .cons rfl (pI st)
/-- == of tuples of ints, lists of ints, lists of tuples of ints, lists of bools -/
theorem rcT {X : Cx} {H : Hp} {a b : Addr} {s t : List Int} (ha : H a = some (.tup (s.map V.int))) (hb : H b = some (.tup (t.map V.int))) : RcD X H 20 (.ref a) (.ref b) (decide (s = t)) :=
  (EqR.tup (d := 19) EqR.int).rc _ _ s t ⟨a, _, rfl, SqT.of ha, pI s⟩ ⟨b, _, rfl, SqT.of hb, pI t⟩
theorem rcL {X : Cx} {H : Hp} {a b : Addr} {s t : List Int} (ha : H a = some (.lst (s.map V.int))) (hb : H b = some (.lst (t.map V.int))) : RcD X H 20 (.ref a) (.ref b) (decide (s = t)) :=
  (EqR.lst (d := 19) EqR.int).rc _ _ s t ⟨a, _, rfl, SqL.of ha, pI s⟩ ⟨b, _, rfl, SqL.of hb, pI t⟩
section
variable {P : Program} {w : World} {K : PySem.W.Frag} {mg : Str → Option Value} {base : Heap} {CH : Addr}
theorem ok_check_jug_g {f : Addr} {fd : FuncData} (F : Fun K "check_jug" "check_jug" s_check_jug f fd) (N : FnB P w K mg base 2 "is_jug" ["value"] sp_is_jug) : FnOk P w K mg base CX0 3 f fd ["jug"] sp_check_jug := by
  refine F.ok sc_check_jug (fun vs H Q E h => ?_) (fun cdv A outer s H vs Q E hr h => ?_)
  · obtain ⟨j, rfl, _⟩ := h
    rfl
  · obtain ⟨j, rfl, hj, k⟩ := h
    refine ⟨_, pss_one (ps_if (pt_not (pt_val (pe_fn N hr (pa_cons (pv 0) pa_nil)))) pss_never pss_nil), ?_⟩
    refine ⟨_, rfl, (j : Int), rfl, _, rfl, ?_⟩
    rw [decide_eq_true (by omega : (0 : Int) ≤ j), decide_eq_true (by omega : (j : Int) ≤ 3)]
    exact iteF k
theorem ok_check_house_has_g {f : Addr} {fd : FuncData} (F : Fun K "check_house_has" "check_house_has" s_check_house_has f fd) (B : Bt mg) (S : MeB P w K mg base 1 CH "sizes" ["self"] (sp_sizes CH)) :
    FnOk P w K mg base CX0 2 f fd ["house", "jug"] (sp_check_house_has CH) := by
  refine F.ok sc_check_house_has (fun vs H Q E h => ?_) (fun cdv A outer s H vs Q E hr h => ?_)
  · obtain ⟨p, sz, tap, j, rfl, _⟩ := h
    rfl
  · obtain ⟨p, sz, tap, j, rfl, hh, hj, k⟩ := h
    obtain ⟨dx, t, hp, ht⟩ := id hh
    refine ⟨_, pss_one (ps_if (pt_cmpR op_ge (pv 1) (pe_callB call_len_seq (by rfl) B.len PySem.boot_len (pa_cons (pe_me0 S (pv 0) hr) pa_nil)) (nomark _)) pss_never pss_nil), ?_⟩
    refine ⟨_, rfl, _, rfl, p, dx, _, rfl, hp, hF_no _ _ (by decide +kernel) (by decide +kernel), p, sz, tap, rfl, hh, fun m hm => ?_⟩
    refine ⟨m, _, rfl, .inl (SqL.of upd_same), _, _, rfl, rfl, _, rfl, ?_⟩
    rw [decide_eq_false (by simp; omega)]
    exact iteF (k _ (Same.new hm))
end
/-! ### goals -/
structure Gz where
  H : Addr
  S : Addr
  U : Addr
  W : Addr
inductive Go where
  | holds (j : Nat) (m : Int)
  | som (m : Int)
  | sum (js : List Int) (m : Int)
  | whole (st : List Int)
def hoF (j : Nat) (m : Int) : List (Str × V) := putF "many" (.int m) (putF "jug" (.int j) [])
def soF (m : Int) : List (Str × V) := putF "many" (.int m) []
def suF (t : Addr) (m : Int) : List (Str × V) := putF "many" (.int m) (putF "jugs" (.ref t) [])
def whF (t : Addr) : List (Str × V) := putF "state" (.ref t) []
theorem n_many_jug : ¬ (("many" : Str) = "jug") := by decide +kernel
theorem n_many_jugs : ¬ (("many" : Str) = "jugs") := by decide +kernel
theorem hoF_jug (j : Nat) (m : Int) : (hoF j m).lookup ("jug" : Str) = some (.int j) := by
  unfold hoF; rw [lookup_putF, if_neg (fun e => n_many_jug e.symm), lookup_putF, if_pos rfl]
theorem hoF_many (j : Nat) (m : Int) : (hoF j m).lookup ("many" : Str) = some (.int m) := by
  unfold hoF; rw [lookup_putF, if_pos rfl]
theorem hoF_no (j : Nat) (m : Int) {x : Str} (h1 : ¬ x = "many") (h2 : ¬ x = "jug") : (hoF j m).lookup x = none := by
  unfold hoF; rw [lookup_putF, if_neg h1, lookup_putF, if_neg h2]; rfl
theorem soF_many (m : Int) : (soF m).lookup ("many" : Str) = some (.int m) := by
  unfold soF; rw [lookup_putF, if_pos rfl]
theorem soF_no (m : Int) {x : Str} (h1 : ¬ x = "many") : (soF m).lookup x = none := by
  unfold soF; rw [lookup_putF, if_neg h1]; rfl
theorem suF_jugs (t : Addr) (m : Int) : (suF t m).lookup ("jugs" : Str) = some (.ref t) := by
  unfold suF; rw [lookup_putF, if_neg (fun e => n_many_jugs e.symm), lookup_putF, if_pos rfl]
theorem suF_many (t : Addr) (m : Int) : (suF t m).lookup ("many" : Str) = some (.int m) := by
  unfold suF; rw [lookup_putF, if_pos rfl]
theorem suF_no (t : Addr) (m : Int) {x : Str} (h1 : ¬ x = "many") (h2 : ¬ x = "jugs") : (suF t m).lookup x = none := by
  unfold suF; rw [lookup_putF, if_neg h1, lookup_putF, if_neg h2]; rfl
theorem whF_state (t : Addr) : (whF t).lookup ("state" : Str) = some (.ref t) := by
  unfold whF; rw [lookup_putF, if_pos rfl]
theorem whF_no (t : Addr) {x : Str} (h1 : ¬ x = "state") : (whF t).lookup x = none := by
  unfold whF; rw [lookup_putF, if_neg h1]; rfl
def GoAt (Z : Gz) (H : Hp) (p : Addr) : Go → Prop
  | .holds j m => ∃ dx, H p = some (.ins Z.H dx (hoF j m))
  | .som m => ∃ dx, H p = some (.ins Z.S dx (soF m))
  | .sum js m => ∃ dx t, H p = some (.ins Z.U dx (suF t m)) ∧ H t = some (.tup (js.map V.int))
  | .whole st => ∃ dx t, H p = some (.ins Z.W dx (whF t)) ∧ H t = some (.tup (st.map V.int))
theorem GoAt.fix {Z : Gz} {H H' : Hp} {p : Addr} {g : Go} (h : GoAt Z H p g) (s : Fix H H') : GoAt Z H' p g := by
  cases g with
  | holds j m => obtain ⟨dx, e⟩ := h; exact ⟨dx, s _ _ e rfl⟩
  | som m => obtain ⟨dx, e⟩ := h; exact ⟨dx, s _ _ e rfl⟩
  | sum js m => obtain ⟨dx, t, e, e2⟩ := h; exact ⟨dx, t, s _ _ e rfl, s _ _ e2 rfl⟩
  | whole st => obtain ⟨dx, t, e, e2⟩ := h; exact ⟨dx, t, s _ _ e rfl, s _ _ e2 rfl⟩
theorem GoAt.mono {Z : Gz} {H H' : Hp} {p : Addr} {g : Go} (h : GoAt Z H p g) (s : Same H H') : GoAt Z H' p g := h.fix (Fix.of s)
/-- the house has the goal -/
def Go.ok (sz : List Int) : Go → Prop
  | .holds j _ => j < sz.length
  | .som _ => True
  | .sum js _ => js.length ≤ 4 ∧ ∀ j ∈ js, 0 ≤ j ∧ j < sz.length
  | .whole t => J.IsSt sz t
def sumAt (st js : List Int) : Int := (js.map fun j => J.at0 st j.toNat).sum
def Go.met (st : List Int) : Go → Bool
  | .holds j m => decide (J.at0 st j = m)
  | .som m => decide (m ∈ st)
  | .sum js m => decide (sumAt st js = m)
  | .whole t => decide (st = t)
def Go.num : Go → Nat
  | .holds _ _ => 0
  | .som _ => 1
  | .sum _ _ => 2
  | .whole _ => 3
theorem decV (a b : Int) : decide (V.int a = V.int b) = decide (a = b) := by
  by_cases h : a = b
  · rw [decide_eq_true h, decide_eq_true (by rw [h])]
  · rw [decide_eq_false h, decide_eq_false (fun e => h (by injection e))]
theorem inV_ints (m : Int) (st : List Int) : inV (.int m) (st.map V.int) = decide (m ∈ st) := by
  unfold inV
  rw [Bool.eq_iff_iff, List.any_eq_true, decide_eq_true_iff]
  constructor
  · rintro ⟨x, hx, e⟩
    obtain ⟨z, hz, rfl⟩ := List.mem_map.mp hx
    have : z = m := beq_iff_eq.mp (show (z == m) = true from e)
    exact this ▸ hz
  · intro h
    exact ⟨.int m, List.mem_map.mpr ⟨m, h, rfl⟩, (show (m == m) = true from beq_iff_eq.mpr rfl)⟩
theorem flat_ints (st : List Int) : (st.map V.int).all flatV = true := by
  rw [List.all_eq_true]
  intro x hx
  obtain ⟨z, _, rfl⟩ := List.mem_map.mp hx
  rfl
structure CHo (K : PySem.W.Frag) (C : Addr) : Prop where
  cl : Cls K C
  jug : NoAttr K C "jug"
  many : NoAttr K C "many"
structure CSo (K : PySem.W.Frag) (C : Addr) : Prop where
  cl : Cls K C
  many : NoAttr K C "many"
structure CSu (K : PySem.W.Frag) (C : Addr) : Prop where
  cl : Cls K C
  jugs : NoAttr K C "jugs"
  many : NoAttr K C "many"
structure CWh (K : PySem.W.Frag) (C : Addr) : Prop where
  cl : Cls K C
  state : NoAttr K C "state"
section
variable {P : Program} {w : World} {K : PySem.W.Frag} {mg : Str → Option Value} {base : Heap} {CH : Addr} {Z : Gz}
def sp_check_amount : Sp := fun vs H Q _ => ∃ m : Int, vs = [.int m] ∧ 0 ≤ m ∧ m ≤ 240 ∧ Q .non H
theorem ok_check_amount {f : Addr} {fd : FuncData} (F : Fun K "check_amount" "check_amount" s_check_amount f fd) (hA : ∃ t, mg "MOST_AMOUNT" = some (.int 240 t)) (N : FnB P w K mg base 1 "is_number" ["value", "least", "most"] sp_is_number) : FnOk P w K mg base CX0 2 f fd ["many"] sp_check_amount := by
  obtain ⟨t, eA⟩ := hA
  refine F.ok sc_check_amount (fun vs H Q E h => ?_) (fun cdv A outer s H vs Q E hr h => ?_)
  · obtain ⟨m, rfl, _⟩ := h
    rfl
  · obtain ⟨m, rfl, h0, h1, k⟩ := h
    refine ⟨_, pss_one (ps_if (pt_not (pt_val (pe_fn N hr (pa_cons (pv 0) (pa_cons pe_int (pa_cons (pe_glob (v := .int 240) (by rfl) eA ⟨_, rfl⟩) pa_nil)))))) pss_never pss_nil), ?_⟩
    refine ⟨_, rfl, m, 0, 240, rfl, _, rfl, ?_⟩
    rw [decide_eq_true h0, decide_eq_true h1]
    exact iteF k
def sp_check_state_of (CH : Addr) : Sp := fun vs H Q _ => ∃ p sz tap a st, vs = [.ref p, .ref a] ∧ House CH H p sz tap ∧ H a = some (.tup (st.map V.int)) ∧ J.IsSt sz st ∧ ∀ H', Same H H' → Q .non H'
theorem ok_check_state_of {f : Addr} {fd : FuncData} (F : Fun K "check_state_of" "check_state_of" s_check_state_of f fd) (N : FnB P w K mg base 2 "held_in" ["house", "state"] (sp_held_in CH)) : FnOk P w K mg base CX0 3 f fd ["house", "state"] (sp_check_state_of CH) := by
  refine F.ok sc_check_state_of (fun vs H Q E h => ?_) (fun cdv A outer s H vs Q E hr h => ?_)
  · obtain ⟨p, sz, tap, a, st, rfl, _⟩ := h
    rfl
  · obtain ⟨p, sz, tap, a, st, rfl, hh, ha, hst, k⟩ := h
    refine ⟨_, pss_one (ps_try fun E' => pss_one (ps_expr (pe_fn N hr (pa_cons (pv 0) (pa_cons (pv 1) pa_nil))))), ?_⟩
    exact ⟨_, rfl, _, rfl, p, sz, tap, a, st, rfl, hh, ha, hst, fun l H' s' _ _ => k _ s'⟩
end
section
variable {P : Program} {w : World} {K : PySem.W.Frag} {mg : Str → Option Value} {base : Heap} {CH : Addr} {Z : Gz}
def sp_Some_init (Z : Gz) : Sp := fun vs H Q _ => ∃ (p dx : Addr) (m : Int), vs = [.ref p, .int m] ∧ H p = some (.ins Z.S dx []) ∧ 0 ≤ m ∧ m ≤ 240 ∧
  ∀ H', (∀ c o, H c = some o → c ≠ p → H' c = some o) → GoAt Z H' p (.som m) → Q .non H'
theorem ok_Some_init {f : Addr} {fd : FuncData} (F : Fun K "__init__" "Some.__init__" s_Some_init f fd) (C : CSo K Z.S) (M : FnB P w K mg base 2 "check_amount" ["many"] sp_check_amount) :
    FnOk P w K mg base CX0 3 f fd ["self", "many"] (sp_Some_init Z) := by
  refine F.ok sc_Some_init (fun vs H Q E h => ?_) (fun cdv A outer s H vs Q E hr h => ?_)
  · obtain ⟨p, dx, b, rfl, _⟩ := h
    rfl
  · obtain ⟨p, dx, m, rfl, hp, h0, h1, k⟩ := h
    refine ⟨_, pss_cons (ps_expr (pe_fn M hr (pa_cons (pv 1) pa_nil))) (pss_one (ps_fld (pv 0) (pv 1) rfl)), ?_⟩
    refine ⟨_, rfl, m, rfl, h0, h1, ?_⟩
    refine ⟨_, rfl, _, rfl, p, Z.S, dx, [], rfl, hp, C.cl, C.many, (by show 0 < 1000; decide), ?_⟩
    exact k _ (fun c o e hc => by rw [upd_ne hc]; exact e) ⟨dx, upd_same⟩
/-- met_by, come: of each sort -/
def sp_met (Z : Gz) (CH : Addr) (n : Nat) : Sp := fun vs H Q _ => ∃ p h l sz tap st g, vs = [.ref p, .ref h, .ref l] ∧ g.num = n ∧ GoAt Z H p g ∧ House CH H h sz tap ∧ H l = some (.lst (st.map V.int)) ∧ J.IsSt sz st ∧ g.ok sz ∧
  ∀ H', Same H H' → Q (.bl (g.met st)) H'
theorem ok_Holds_met {f : Addr} {fd : FuncData} (F : Fun K "met_by" "Holds.met_by" s_Holds_met_by f fd) (C : CHo K Z.H) (N : FnB P w K mg base 2 "check_house_has_goals" ["house", "jug"] (sp_check_house_has CH)) :
    FnOk P w K mg base CX0 3 f fd ["self", "house", "held"] (sp_met Z CH 0) := by
  refine F.ok sc_Holds_met_by (fun vs H Q E h => ?_) (fun cdv A outer s H vs Q E hr h => ?_)
  · obtain ⟨p, h, l, sz, tap, st, g, rfl, _⟩ := h
    rfl
  · obtain ⟨p, h, l, sz, tap, st, g, rfl, hn, hg, hh, hl, hst, hok, k⟩ := h
    cases g with
    | holds j m =>
      obtain ⟨dx, hp⟩ := hg
      have hj : j < sz.length := hok
      have hj' : j < st.length := by rw [hst.len]; exact hj
      refine ⟨_, pss_cons (ps_expr (pe_fn N hr (pa_cons (pv 1) (pa_cons (pe_fld (pv 0) rfl) pa_nil)))) (pss_one (ps_ret (pe_cmpR op_eq (pe_ix ix_list (pv 2) (pe_fld (pv 0) rfl) (fun _ _ => rfl)) (pe_fld (pv 0) rfl) (nomark _)))), ?_⟩
      refine ⟨_, rfl, _, rfl, p, Z.H, dx, _, _, rfl, hp, C.cl, C.jug, hoF_jug _ _, h, sz, tap, j, rfl, hh, hj, fun H1 s1 => ?_⟩
      refine ⟨_, rfl, _, rfl, p, Z.H, dx, _, _, rfl, s1 _ _ hp, C.cl, C.jug, hoF_jug _ _, l, _, _, _, rfl, rfl, SqL.of (s1 _ _ hl), atI_nat (getV_of hj'), ?_⟩
      refine ⟨_, rfl, p, Z.H, dx, _, _, rfl, s1 _ _ hp, C.cl, C.many, hoF_many _ _, rfl, ?_⟩
      rw [decV]
      exact k _ s1
    | som m => cases hn
    | sum js m => cases hn
    | whole t => cases hn
theorem ok_Some_met {f : Addr} {fd : FuncData} (F : Fun K "met_by" "Some.met_by" s_Some_met_by f fd) (C : CSo K Z.S) :
    FnOk P w K mg base CX0 3 f fd ["self", "house", "held"] (sp_met Z CH 1) := by
  refine F.ok sc_Some_met_by (fun vs H Q E h => ?_) (fun cdv A outer s H vs Q E hr h => ?_)
  · obtain ⟨p, h, l, sz, tap, st, g, rfl, _⟩ := h
    rfl
  · obtain ⟨p, h, l, sz, tap, st, g, rfl, hn, hg, hh, hl, hst, hok, k⟩ := h
    cases g with
    | som m =>
      obtain ⟨dx, hp⟩ := hg
      refine ⟨_, pss_one (ps_ret (pe_cmpR op_in_seq (pe_fld (pv 0) rfl) (pv 2) (by rfl))), ?_⟩
      refine ⟨_, rfl, p, Z.S, dx, _, _, rfl, hp, C.cl, C.many, soF_many _, _, rfl, l, _, rfl, .inl (SqL.of hl), rfl, flat_ints _, ?_⟩
      show Q (.bl (inV (.int m) (st.map V.int))) H
      rw [inV_ints]
      exact k _ (Same.refl _)
    | holds j m => cases hn
    | sum js m => cases hn
    | whole t => cases hn
theorem ok_Whole_met {f : Addr} {fd : FuncData} (F : Fun K "met_by" "Whole.met_by" s_Whole_met_by f fd) (B : Bt mg) (C : CWh K Z.W) (N : FnB P w K mg base 3 "check_state_of" ["house", "state"] (sp_check_state_of CH)) :
    FnOk P w K mg base CX0 4 f fd ["self", "house", "held"] (sp_met Z CH 3) := by
  refine F.ok sc_Whole_met_by (fun vs H Q E h => ?_) (fun cdv A outer s H vs Q E hr h => ?_)
  · obtain ⟨p, h, l, sz, tap, st, g, rfl, _⟩ := h
    rfl
  · obtain ⟨p, h, l, sz, tap, st, g, rfl, hn, hg, hh, hl, hst, hok, k⟩ := h
    cases g with
    | whole t =>
      obtain ⟨dx, a, hp, ha⟩ := hg
      refine ⟨_, pss_cons (ps_expr (pe_fn N hr (pa_cons (pv 1) (pa_cons (pe_fld (pv 0) rfl) pa_nil)))) (pss_one (ps_ret (pe_cmpR (op_eqD hr.u20) (pe_callTy call_tuple_of (by rfl) B.tuple bt_tuple (pa_cons (pv 2) pa_nil)) (pe_fld (pv 0) rfl) (nomark _)))), ?_⟩
      refine ⟨_, rfl, _, rfl, p, Z.W, dx, _, _, rfl, hp, C.cl, C.state, whF_state _, h, sz, tap, a, t, rfl, hh, ha, hok, fun H1 s1 => ?_⟩
      refine ⟨_, rfl, l, _, rfl, .inl ⟨SqL.of (s1 _ _ hl), fun u nu => ?_⟩⟩
      have s2 := s1.lay (o := .tup (st.map V.int)) nu
      refine ⟨_, rfl, p, Z.W, dx, _, _, rfl, s2 _ _ hp, C.cl, C.state, whF_state _, _, rcT upd_same (s2 _ _ ha), ?_⟩
      exact k _ s2
    | holds j m => cases hn
    | sum js m => cases hn
    | som m => cases hn
theorem bt_sum : bootBuiltins "sum" = some (.builtin "sum") := by decide +kernel
theorem ok_Sum_met {f : Addr} {fd : FuncData} (F : Fun K "met_by" "Sum.met_by" s_Sum_met_by f fd) (C : CSu K Z.U) (hsm : mg "sum" = none) (N : FnB P w K mg base 2 "check_house_has_goals" ["house", "jug"] (sp_check_house_has CH)) :
    FnOk P w K mg base CX0 3 f fd ["self", "house", "held"] (sp_met Z CH 2) := by
  refine F.ok sc_Sum_met_by (fun vs H Q E h => ?_) (fun cdv A outer s H vs Q E hr h => ?_)
  · obtain ⟨p, h, l, sz, tap, st, g, rfl, _⟩ := h
    rfl
  · obtain ⟨p, h, l, sz, tap, st, g, rfl, hn, hg, hh, hl, hst, hok, k⟩ := h
    cases g with
    | sum js m =>
      obtain ⟨dx, a, hp, ha⟩ := hg
      obtain ⟨h4, hb⟩ := hok
      have nd := sc_Sum_met_by.nd
      refine ⟨_, pss_cons (ps_for PassesOwn.never rfl (pi_tup (pe_fld (pv 0) rfl)) (pg_name (i := 3) nd rfl (Or.inl rfl)) (pss_one (ps_expr (pe_fn N hr (pa_cons (pv 1) (pa_cons (pv 3) pa_nil))))))
        (pss_one (ps_ret (pe_cmpR op_eq (pe_callB (call_sum rfl) (by rfl) hsm bt_sum (pa_cons (pe_lc sc_Sum_met_by [2] (pi_tup (pe_fld (pv 0) rfl)) (fun _ _ _ _ _ _ => ⟨pif_nil, pe_ix (ix_listK K) (pv 1) (pv 0) (fun _ _ => rfl)⟩)) pa_nil)) (pe_fld (pv 0) rfl) (nomark _)))), ?_⟩
      refine ⟨_, rfl, p, Z.U, dx, _, _, rfl, hp, C.cl, C.jugs, suF_jugs _ _, a, rfl, ⟨_, SqT.of ha⟩, for_tup (K := K) (a := a) (xs := js.map V.int) (fun i σ H' => ∃ v, σ = [some (.ref p), some (.ref h), some (.ref l), v] ∧ Same H H')
        ⟨none, rfl, Same.refl _⟩ (fun i σ H' _ ⟨_, _, s1⟩ => SqT.of (s1 _ _ ha)) ?_ ?_⟩
      · rintro i x σ H' hx ⟨v, rfl, s1⟩
        obtain ⟨z, ez, rfl⟩ := mem_ints hx
        obtain ⟨z0, z1⟩ := hb z (List.mem_of_getElem? ez)
        obtain ⟨j, rfl⟩ : ∃ j : Nat, z = (j : Int) := ⟨z.toNat, (Int.toNat_of_nonneg z0).symm⟩
        exact ⟨_, rfl, _, rfl, h, sz, tap, j, rfl, hh.mono s1, by omega, fun H2 s2 => ⟨_, rfl, s1.trans s2⟩⟩
      · rintro σ H' ⟨v, rfl, s1⟩
        refine ⟨_, rfl, p, Z.U, dx, _, _, rfl, s1 _ _ hp, C.cl, C.jugs, suF_jugs _ _, a, rfl, ⟨_, SqT.of (s1 _ _ ha)⟩, lc_tup (xs := js.map V.int) (fun i ys H'' => ys = ((js.take i).map fun j => J.at0 st j.toNat).map V.int ∧ H'' = H') ⟨rfl, rfl⟩ (by rw [List.length_map]; exact small1000 (by omega)) (fun i ys H' ⟨e, _⟩ => by rw [e]; simp; omega)
          (fun i ys H'' _ ⟨_, e⟩ => by subst e; exact SqT.of (s1 _ _ ha)) (fun i x ys H'' hx ⟨e1, e2⟩ => ?_) (fun ys H'' ⟨e1, e2⟩ => ?_)⟩
        · obtain ⟨z, ez, rfl⟩ := mem_ints hx
          obtain ⟨z0, z1⟩ := hb z (List.mem_of_getElem? ez)
          obtain ⟨j, rfl⟩ : ∃ j : Nat, z = (j : Int) := ⟨z.toNat, (Int.toNat_of_nonneg z0).symm⟩
          have hj' : j < st.length := by rw [hst.len]; omega
          subst e1 e2
          refine tYes_of ⟨_, rfl, _, rfl, l, _, _, .int (J.at0 st j), rfl, rfl, SqL.of (s1 _ _ hl), atI_nat (getV_of hj'), ?_, rfl⟩
          rw [List.take_add_one, ez, List.map_append, List.map_append]
          rfl
        · subst e1 e2
          intro D nD
          have s2 := s1.lay (o := .lst (((js.take (js.map V.int).length).map fun j => J.at0 st j.toNat).map V.int)) nD
          refine ⟨D, _, rfl, SqL.of upd_same, ?_⟩
          refine ⟨_, rfl, p, Z.U, dx, _, _, rfl, s2 _ _ hp, C.cl, C.many, suF_many _ _, rfl, ?_⟩
          rw [decV, List.length_map, List.take_length]
          exact k _ (by rw [List.length_map, List.take_length] at s2; exact s2)
    | holds j m => cases hn
    | whole t => cases hn
    | som m => cases hn
def sp_come (Z : Gz) (CH : Addr) : Sp := fun vs H Q _ => ∃ p h a sz tap st g, vs = [.ref p, .ref h, .ref a] ∧ GoAt Z H p g ∧ House CH H h sz tap ∧ H a = some (.tup (st.map V.int)) ∧ J.IsSt sz st ∧ g.ok sz ∧
  ∀ H', Same H H' → Q (.bl (g.met st)) H'
theorem ok_come {f : Addr} {fd : FuncData} (F : Fun K "come" "Goal.come" s_Goal_come f fd) (HI : FnB P w K mg base 2 "held_in" ["house", "state"] (sp_held_in CH)) (M0 : MeB P w K mg base 4 Z.H "met_by" ["self", "house", "held"] (sp_met Z CH 0))
    (M1 : MeB P w K mg base 4 Z.S "met_by" ["self", "house", "held"] (sp_met Z CH 1)) (M2 : MeB P w K mg base 4 Z.U "met_by" ["self", "house", "held"] (sp_met Z CH 2)) (M3 : MeB P w K mg base 4 Z.W "met_by" ["self", "house", "held"] (sp_met Z CH 3)) :
    FnOk P w K mg base CX0 5 f fd ["self", "house", "state"] (sp_come Z CH) := by
  refine F.ok sc_Goal_come (fun vs H Q E h => ?_) (fun cdv A outer s H vs Q E hr h => ?_)
  · obtain ⟨p, h, l, sz, tap, st, g, rfl, _⟩ := h
    rfl
  · obtain ⟨p, h, a, sz, tap, st, g, rfl, hg, hh, ha, hst, hok, k⟩ := h
    have nd := sc_Goal_come.nd
    have hr2 : Room 2 _ := hr.mono (by decide)
    cases g with
    | holds j m =>
      refine ⟨_, pss_cons (ps_set (i := 3) nd rfl (Or.inl rfl) (pe_fn HI hr2 (pa_cons (pv 1) (pa_cons (pv 2) pa_nil)))) (pss_one (ps_ret (pe_me M0 (pv 0) hr (pa_cons (pv 1) (pa_cons (pv 3) pa_nil))))), ?_⟩
      refine ⟨_, rfl, _, rfl, h, sz, tap, a, st, rfl, hh, ha, hst, fun l H1 s1 _ hl => ?_⟩
      obtain ⟨dx, hp⟩ := hg.mono s1
      exact ⟨_, rfl, p, dx, _, rfl, hp, hoF_no _ _ (by decide +kernel) (by decide +kernel), _, rfl, _, rfl, p, h, l, sz, tap, st, .holds j m, rfl, rfl, ⟨dx, hp⟩, hh.mono s1, hl, hst, hok, fun H2 s2 => k _ (s1.trans s2)⟩
    | som m =>
      refine ⟨_, pss_cons (ps_set (i := 3) nd rfl (Or.inl rfl) (pe_fn HI hr2 (pa_cons (pv 1) (pa_cons (pv 2) pa_nil)))) (pss_one (ps_ret (pe_me M1 (pv 0) hr (pa_cons (pv 1) (pa_cons (pv 3) pa_nil))))), ?_⟩
      refine ⟨_, rfl, _, rfl, h, sz, tap, a, st, rfl, hh, ha, hst, fun l H1 s1 _ hl => ?_⟩
      obtain ⟨dx, hp⟩ := hg.mono s1
      exact ⟨_, rfl, p, dx, _, rfl, hp, soF_no _ (by decide +kernel), _, rfl, _, rfl, p, h, l, sz, tap, st, .som m, rfl, rfl, ⟨dx, hp⟩, hh.mono s1, hl, hst, hok, fun H2 s2 => k _ (s1.trans s2)⟩
    | sum js m =>
      refine ⟨_, pss_cons (ps_set (i := 3) nd rfl (Or.inl rfl) (pe_fn HI hr2 (pa_cons (pv 1) (pa_cons (pv 2) pa_nil)))) (pss_one (ps_ret (pe_me M2 (pv 0) hr (pa_cons (pv 1) (pa_cons (pv 3) pa_nil))))), ?_⟩
      refine ⟨_, rfl, _, rfl, h, sz, tap, a, st, rfl, hh, ha, hst, fun l H1 s1 _ hl => ?_⟩
      obtain ⟨dx, t, hp, ht⟩ := hg.mono s1
      exact ⟨_, rfl, p, dx, _, rfl, hp, suF_no _ _ (by decide +kernel) (by decide +kernel), _, rfl, _, rfl, p, h, l, sz, tap, st, .sum js m, rfl, rfl, ⟨dx, t, hp, ht⟩, hh.mono s1, hl, hst, hok, fun H2 s2 => k _ (s1.trans s2)⟩
    | whole t =>
      refine ⟨_, pss_cons (ps_set (i := 3) nd rfl (Or.inl rfl) (pe_fn HI hr2 (pa_cons (pv 1) (pa_cons (pv 2) pa_nil)))) (pss_one (ps_ret (pe_me M3 (pv 0) hr (pa_cons (pv 1) (pa_cons (pv 3) pa_nil))))), ?_⟩
      refine ⟨_, rfl, _, rfl, h, sz, tap, a, st, rfl, hh, ha, hst, fun l H1 s1 _ hl => ?_⟩
      obtain ⟨dx, b, hp, hb⟩ := hg.mono s1
      exact ⟨_, rfl, p, dx, _, rfl, hp, whF_no _ (by decide +kernel), _, rfl, _, rfl, p, h, l, sz, tap, st, .whole t, rfl, rfl, ⟨dx, b, hp, hb⟩, hh.mono s1, hl, hst, hok, fun H2 s2 => k _ (s1.trans s2)⟩
end
end Jug

namespace Jug
open PySem L2
def Gz.cl (Z : Gz) : Go → Addr
  | .holds _ _ => Z.H
  | .som _ => Z.S
  | .sum _ _ => Z.U
  | .whole _ => Z.W
structure GoC (K : PySem.W.Frag) (mg : Str → Option Value) (Z : Gz) (CG : Addr) : Prop where
  ho : CHo K Z.H
  so : CSo K Z.S
  su : CSu K Z.U
  wh : CWh K Z.W
  tH : CTy K Z.H
  tS : CTy K Z.S
  tU : CTy K Z.U
  tW : CTy K Z.W
  gG : mg "Goal" = some (.ref CG)
  gH : mg "Holds" = some (.ref Z.H)
  gS : mg "Some" = some (.ref Z.S)
  gU : mg "Sum" = some (.ref Z.U)
  gW : mg "Whole" = some (.ref Z.W)
  kHS : PySem.W.kitOne K (.ref Z.H) (.ref Z.S) = some false
  kHU : PySem.W.kitOne K (.ref Z.H) (.ref Z.U) = some false
  kHW : PySem.W.kitOne K (.ref Z.H) (.ref Z.W) = some false
  kSH : PySem.W.kitOne K (.ref Z.S) (.ref Z.H) = some false
  kSU : PySem.W.kitOne K (.ref Z.S) (.ref Z.U) = some false
  kSW : PySem.W.kitOne K (.ref Z.S) (.ref Z.W) = some false
  kUH : PySem.W.kitOne K (.ref Z.U) (.ref Z.H) = some false
  kUS : PySem.W.kitOne K (.ref Z.U) (.ref Z.S) = some false
  kUW : PySem.W.kitOne K (.ref Z.U) (.ref Z.W) = some false
  kWH : PySem.W.kitOne K (.ref Z.W) (.ref Z.H) = some false
  kWS : PySem.W.kitOne K (.ref Z.W) (.ref Z.S) = some false
  kWU : PySem.W.kitOne K (.ref Z.W) (.ref Z.U) = some false
  kHG : PySem.W.kitOne K (.ref Z.H) (.ref CG) = some true
  kSG : PySem.W.kitOne K (.ref Z.S) (.ref CG) = some true
  kUG : PySem.W.kitOne K (.ref Z.U) (.ref CG) = some true
  kWG : PySem.W.kitOne K (.ref Z.W) (.ref CG) = some true
theorem GoC.ty {K : PySem.W.Frag} {mg : Str → Option Value} {Z : Gz} {CG : Addr} (M : GoC K mg Z CG) {H : Hp} {p : Addr} {g : Go} (h : GoAt Z H p g) : TyOf K H (.ref p) (.ref (Z.cl g)) := by
  cases g with
  | holds a b => obtain ⟨dx, h⟩ := h; exact .ins h M.ho.cl M.tH.ha M.tH.hn M.tH.htk M.tH.hm
  | som a => obtain ⟨dx, h⟩ := h; exact .ins h M.so.cl M.tS.ha M.tS.hn M.tS.htk M.tS.hm
  | sum a b => obtain ⟨dx, t, h, _⟩ := h; exact .ins h M.su.cl M.tU.ha M.tU.hn M.tU.htk M.tU.hm
  | whole a => obtain ⟨dx, t, h, _⟩ := h; exact .ins h M.wh.cl M.tW.ha M.tW.hn M.tW.htk M.tW.hm
/-- the fields of a goal hold no method -/
theorem GoAt.no {Z : Gz} {H : Hp} {p : Addr} {g : Go} (h : GoAt Z H p g) : ∃ dx fs, H p = some (.ins (Z.cl g) dx fs) ∧ fs.lookup ("come" : Str) = none := by
  cases g with
  | holds a b => obtain ⟨dx, h⟩ := h; exact ⟨dx, _, h, hoF_no _ _ (by decide +kernel) (by decide +kernel)⟩
  | som a => obtain ⟨dx, h⟩ := h; exact ⟨dx, _, h, soF_no _ (by decide +kernel)⟩
  | sum a b => obtain ⟨dx, t, h, _⟩ := h; exact ⟨dx, _, h, suF_no _ _ (by decide +kernel) (by decide +kernel)⟩
  | whole a => obtain ⟨dx, t, h, _⟩ := h; exact ⟨dx, _, h, whF_no _ (by decide +kernel)⟩
def anyGo (Z : Gz) : Addr → Prop := fun C => C = Z.H ∨ C = Z.S ∨ C = Z.U ∨ C = Z.W
theorem anyGo.of (Z : Gz) (g : Go) : anyGo Z (Z.cl g) := by
  cases g with
  | holds _ _ => exact .inl rfl
  | som _ => exact .inr (.inl rfl)
  | sum _ _ => exact .inr (.inr (.inl rfl))
  | whole _ => exact .inr (.inr (.inr rfl))
/-- the other house -/
theorem GoC.any {K : PySem.W.Frag} {mg : Str → Option Value} {Z : Gz} {CG : Addr} (M : GoC K mg Z CG) (g : Go) : PySem.W.kitAny K (.ref (Z.cl g)) [.ref Z.H, .ref Z.S, .ref Z.U, .ref Z.W] = some true := by
  cases g with
  | holds _ _ => simp only [PySem.W.kitAny, Gz.cl, kit_self]
  | som _ => simp only [PySem.W.kitAny, Gz.cl, M.kSH, kit_self]
  | sum _ _ => simp only [PySem.W.kitAny, Gz.cl, M.kUH, M.kUS, kit_self]
  | whole _ => simp only [PySem.W.kitAny, Gz.cl, M.kWH, M.kWS, M.kWU, kit_self]
/-- all but the object at d -/
def SameB (d : Addr) (H H' : Hp) : Prop := ∀ b c, H b = some c → b ≠ d → H' b = some c
theorem WD.get {Z : Cz} {H : Hp} {W : List J.Way} : ∀ {kvs : List (List Key × V)} {ws : List J.Way}, WD Z H W kvs ws → (ws.map (·.1)).Nodup → ∀ {q : Nat} {x : J.Way}, ws[q]? = some x → ∃ v, valV kvs (kOf x.1) = some v ∧ WVal Z H W v x.2
  | _, _, .nil, _, _, _, h => by simp at h
  | _, _, .cons (a := kv) (b := y) hd t, nd, 0, x, h => by
    simp at h
    subst h
    exact ⟨kv.2, valV_pos hd.1, hd.2⟩
  | _, _, .cons (a := kv) (b := y) hd t, nd, q + 1, x, h => by
    rw [List.map_cons, List.nodup_cons] at nd
    have h' := (by simpa using h : _)
    obtain ⟨v, e, hv⟩ := WD.get t nd.2 h'
    refine ⟨v, ?_, hv⟩
    rw [valV_neg (fun e => nd.1 ?_)]
    · exact e
    · rw [hd.1] at e
      have := kOf_inj e
      rw [this]
      exact List.mem_map.mpr ⟨x, List.mem_of_getElem? h', rfl⟩
theorem ne_of_fx {H : Hp} {b d : Addr} {c : HO} {kvs : List (List Key × V)} (e : H b = some c) (hd : H d = some (.dT kvs)) (f : fx c = true) : b ≠ d := by
  rintro rfl
  rw [hd] at e
  cases e
  cases f
section
variable {P : Program} {w : World} {K : PySem.W.Frag} {mg : Str → Option Value} {base : Heap} {CH CG : Addr} {Z : Cz} {G : Gz}
def sp_check_goal (G : Gz) : Sp := fun vs H Q _ => ∃ p g, vs = [.ref p] ∧ GoAt G H p g ∧ ∀ H', Same H H' → Q .non H'
theorem ok_check_goal {f : Addr} {fd : FuncData} (F : Fun K "check_goal" "check_goal" s_check_goal f fd) (B : Bt mg) (M : GoC K mg G CG) : FnOk P w K mg base CX0 1 f fd ["goal"] (sp_check_goal G) := by
  refine F.ok sc_check_goal (fun vs H Q E h => ?_) (fun cdv A outer s H vs Q E hr h => ?_)
  · obtain ⟨p, g, rfl, _⟩ := h
    rfl
  · obtain ⟨p, g, rfl, hg, k⟩ := h
    refine ⟨_, pss_one (ps_if (pt_not (pt_val (pe_callB call_isinstT (by rfl) B.isinstance bt_isinstance (pa_cons (pv 0) (pa_cons (pe_tup (pa_cons (pe_glob (v := .ref G.H) (by rfl) M.gH rfl) (pa_cons (pe_glob (v := .ref G.S) (by rfl) M.gS rfl) (pa_cons (pe_glob (v := .ref G.U) (by rfl) M.gU rfl)
      (pa_cons (pe_glob (v := .ref G.W) (by rfl) M.gW rfl) pa_nil))))) pa_nil))))) pss_never pss_nil), ?_⟩
    refine ⟨_, rfl, (by show 4 ≤ sizeLine; decide), fun tp nt => ?_⟩
    exact ⟨_, tp, _, _, _, _, rfl, upd_same, .cons (.ref _) (.cons (.ref _) (.cons (.ref _) (.cons (.ref _) .nil))), M.ty (hg.mono (Same.new nt)), M.any g, _, rfl, iteF (k _ (Same.new nt))⟩
def sp_nearest (Z : Cz) (G : Gz) (CH : Addr) : Sp := fun vs H Q _ => ∃ (h d p : Addr) (sz : List Int) (tap : Bool) (g : Go) (kvs : List (List Key × V)) (W : List J.Way), vs = [.ref h, .ref d, .ref p] ∧ House CH H h sz tap ∧ GoAt G H p g ∧ g.ok sz ∧ H d = some (.dT kvs) ∧ WD Z H W kvs W ∧ (∀ x ∈ W, J.IsSt sz x.1) ∧
  ∀ (H' : Hp) (o : Obj), SameB d H H' → H' d = some (.frz o (.dT kvs)) →
    (∀ (i : Nat) (x : J.Way) (b : Addr), W[i]? = some x → g.met x.1 = true → (∀ (j : Nat) (y : J.Way), j < i → W[j]? = some y → g.met y.1 = false) → H' b = some (.tup (x.1.map V.int)) → Q (.ref b) H') ∧ ((∀ x ∈ W, g.met x.1 = false) → Q .non H')
theorem ok_nearest {f : Addr} {fd : FuncData} (F : Fun K "nearest" "nearest" s_nearest f fd) (CM : ∀ C, anyGo G C → MeB P w K mg base 5 C "come" ["self", "house", "state"] (sp_come G CH)) : FnOk P w K mg base CX0 6 f fd ["house", "ways", "goal"] (sp_nearest Z G CH) := by
  refine F.ok sc_nearest (fun vs H Q E h => ?_) (fun cdv A outer s H vs Q E hr h => ?_)
  · obtain ⟨h, d, p, sz, tap, g, kvs, W, rfl, _⟩ := h
    rfl
  · obtain ⟨h, d, p, sz, tap, g, kvs, W, rfl, hh, hg, hok, hd, wd, hst, k⟩ := h
    refine ⟨_, pss_cons (ps_for PassesOwn.never rfl (pi_dt (pv 1)) (pg_name (i := 3) sc_nearest.nd rfl (Or.inl rfl))
        (pss_one (ps_if (pt_val (pe_meU CM (pv 2) hr (pa_cons (pv 0) (pa_cons (pv 3) pa_nil)))) (pss_one (ps_ret (pv 3))) pss_nil)))
      (pss_one (ps_ret pe_non)), ?_⟩
    refine ⟨_, rfl, d, kvs, rfl, .inl ⟨hd, fun o => for_dt (a := d) (kvs := kvs) (o := o) (fun i σ H' => ∃ v3 : Option V, σ = [some (.ref h), some (.ref d), some (.ref p), v3] ∧ SameB d H H' ∧ H' d = some (.frz o (.dT kvs)) ∧ ∀ (j : Nat) (y : J.Way), j < i → W[j]? = some y → g.met y.1 = false)
      ⟨none, rfl, fun b c e hb => by rw [upd_ne hb]; exact e, upd_same, fun j y hj => absurd hj (Nat.not_lt_zero _)⟩ (fun i σ H' _ ⟨_, _, _, e, _⟩ => e) ?_ ?_⟩⟩
    · rintro i k' v b σ H' hk hb ⟨v3, rfl, s4, ed, no⟩
      obtain ⟨x, hx, ek, _⟩ := L2.Paired.get wd hk
      have ek' : k' = kOf x.1 := ek
      rw [ek', kOf_map] at hb
      have fb : ∀ {b c}, H b = some c → fx c = true → H' b = some c := fun {b c} e f => s4 b c e (ne_of_fx e hd f)
      have hg4 : GoAt G H' p g := hg.fix fun c o e f => fb e f
      have hh4 : House CH H' h sz tap := hh.fix fun c o e f => fb e f
      obtain ⟨dx, fs, hp, hno⟩ := hg4.no
      refine ⟨_, rfl, G.cl g, p, dx, fs, anyGo.of G g, rfl, hp, hno, _, rfl, _, rfl, p, h, b, sz, tap, x.1, g, rfl, hg4, hh4, hb, hst x (List.mem_of_getElem? hx), hok, fun H5 s5 => ⟨_, rfl, ?_⟩⟩
      have s6 : SameB d H H5 := fun c o e hc => s5 _ _ (s4 c o e hc)
      cases hm : g.met x.1 with
      | true => exact iteT ⟨_, rfl, (k H5 o s6 (s5 _ _ ed)).1 i x b hx hm no (s5 _ _ hb)⟩
      | false =>
        refine iteF ⟨_, rfl, s6, s5 _ _ ed, fun j y hj hy => ?_⟩
        by_cases e : j = i
        · subst e; rw [hx] at hy; cases hy; exact hm
        · exact no j y (by omega) hy
    · rintro σ H' ⟨v3, rfl, s4, ed, no⟩
      refine (k H' o s4 ed).2 fun x hx => ?_
      obtain ⟨j, hj⟩ := List.mem_iff_getElem?.mp hx
      have := (List.getElem?_eq_some_iff.mp hj).1
      exact no j x (by have := wd.length; omega) hj
end
end Jug

namespace Jug
open PySem L2
theorem back_fuel {W : List J.Way} (par : ∀ (i : Nat) (x : List Int) (q : Nat) (m : J.Mv), W[i]? = some (x, some (q, m)) → q < i) : ∀ (i f : Nat), i < f → J.back W f i = J.back W (i + 1) i := by
  intro i
  induction i using Nat.strongRecOn with
  | ind i ih =>
    intro f hf
    cases f with
    | zero => omega
    | succ f =>
      unfold J.back
      cases e : W[i]? with
      | none => rfl
      | some y =>
        obtain ⟨x, o⟩ := y
        cases o with
        | none => rfl
        | some qm =>
          obtain ⟨q, m⟩ := qm
          have hq := par i x q m e
          show m :: J.back W f q = m :: J.back W i q
          rw [ih q hq f (by omega), ih q hq i hq]
section
variable {P : Program} {w : World} {K : PySem.W.Frag} {mg : Str → Option Value} {base : Heap} {CH CG : Addr} {Z : Cz} {G : Gz}
def sp_moves_to (Z : Cz) : Sp := fun vs H Q _ => ∃ (d b : Addr) (kvs : List (List Key × V)) (W : List J.Way) (i : Nat) (x : J.Way), vs = [.ref d, .ref b] ∧ Rd H d (.dT kvs) ∧ WD Z H W kvs W ∧ (W.map (·.1)).Nodup ∧ (∀ (i : Nat) (x : List Int) (q : Nat) (m : J.Mv), W[i]? = some (x, some (q, m)) → q < i) ∧
  W.length ≤ 2000 ∧ W[i]? = some x ∧ H b = some (.tup (x.1.map V.int)) ∧ ∀ (l : Addr) (H' : Hp) (ys : List V), Same H H' → H' l = some (.lst ys) → Paired (isM Z H') ys (J.back W (i + 1) i).reverse → Q (.ref l) H'
theorem Rd.same {H H' : Hp} {a : Addr} {u : HO} (h : Rd H a u) (s : Same H H') : Rd H' a u := by
  rcases h with h | ⟨o, h⟩
  · exact .inl (s _ _ h)
  · exact .inr ⟨o, s _ _ h⟩
theorem paired_rev {α β : Type} {F : α → β → Prop} {l₁ : List α} {l₂ : List β} (h : Paired F l₁ l₂) : Paired F l₁.reverse l₂.reverse := by
  induction h with
  | nil => exact .nil
  | cons h _ ih => rw [List.reverse_cons, List.reverse_cons]; exact Paired.snocP ih h
theorem ok_moves_to {f : Addr} {fd : FuncData} (F : Fun K "moves_to" "moves_to" s_moves_to f fd) (B : Bt mg) (hrv : mg "reversed" = none) : FnOk P w K mg base CX0 1 f fd ["ways", "state"] (sp_moves_to Z) := by
  refine F.ok sc_moves_to (fun vs H Q E h => ?_) (fun cdv A outer s H vs Q E hr h => ?_)
  · obtain ⟨d, b, kvs, W, i, x, rfl, _⟩ := h
    rfl
  · obtain ⟨d, b, kvs, W, i, x, rfl, hd, wd, nd, par, hl, hx, hb, k⟩ := h
    have hu := hr.units
    refine ⟨_, pss_cons (ps_set (i := 2) sc_moves_to.nd rfl (Or.inl rfl) (pe_lst pa_nil))
      (pss_cons (ps_set (i := 3) sc_moves_to.nd rfl (Or.inl rfl) (pe_dget (Nat.lt_of_le_of_lt (Nat.add_le_add_left (by decide) _) hu) (pv 0) (pv 1) (fun _ _ => rfl)))
      (pss_cons (ps_while PassesOwn.never (pt_cmp (pc_notN (pv 3)))
        (pss_cons (ps_expr (pe_append (pv 2) (pe_ix ix_tup (pv 3) pe_int (fun _ _ => rfl))))
        (pss_one (ps_set (i := 3) sc_moves_to.nd rfl (Or.inl rfl) (pe_dget (Nat.lt_of_le_of_lt (Nat.add_le_add_left (by decide) _) hu) (pv 0) (pe_ix ix_tup (pv 3) pe_int (fun _ _ => rfl)) (fun _ _ => rfl))))))
      (pss_one (ps_ret (pe_revL rfl (by rfl) B.list (by rfl) hrv (pv 2)))))), ?_⟩
    refine ⟨(by show 0 ≤ sizeLine; decide), fun bk nbk => ?_⟩
    have s1 : Same H (upd H bk (.lst [])) := Same.new nbk
    obtain ⟨v0, ev0, wv0⟩ := wd.get nd hx
    refine ⟨_, rfl, _, rfl, d, v0, rfl, .inr ⟨kvs, kOf x.1, b, Rd.same hd s1, rfl, by rw [kOf_map]; exact s1 _ _ hb, ev0.symm⟩, ?_⟩
    refine ⟨fun n σ H' => ∃ (y : J.Way) (v : V) (ys : List V) (pre : List J.Mv), W[n]? = some y ∧ WVal Z H W v y.2 ∧ σ = [some (.ref d), some (.ref b), some (.ref bk), some v] ∧ Same H H' ∧ H' bk = some (.lst ys) ∧ Paired (isM Z H') ys pre ∧ pre ++ J.back W (n + 1) n = J.back W (i + 1) i ∧ ys.length + n ≤ 2000,
      ⟨i, x, v0, [], [], hx, wv0, rfl, s1, upd_same, .nil, rfl, ?_⟩, ?_⟩
    · have := (List.getElem?_eq_some_iff.mp hx).1
      simp; omega
    rintro n σ H' ⟨y, v, ys, pre, hy, wv, rfl, s2, e2, p2, ep, hlen⟩
    refine ⟨_, rfl, _, rfl, ?_⟩
    obtain ⟨y1, y2⟩ := y
    cases y2 with
    | none =>
      have ev : v = .non := wv
      subst ev
      refine iteF ⟨_, rfl, bk, _, rfl, SqL.of e2, fun l nl => k l _ _ (s2.lay nl) upd_same ?_⟩
      have e0 : J.back W (n + 1) n = [] := by simp [J.back, hy]
      rw [e0, List.append_nil] at ep
      rw [← ep]
      exact paired_rev (pm_fix p2 (Fix.of (Same.new nl)))
    | some qm =>
      obtain ⟨q, m⟩ := qm
      obtain ⟨t, a, pp, z, ev, ht, hz, ha, hm⟩ := wv
      subst ev
      have hq := par n y1 q m hy
      refine iteT ?_
      obtain ⟨v1, ev1, wv1⟩ := wd.get nd hz
      have fx1 : Fix H' (upd H' bk (.lst (ys ++ [.ref pp]))) := Fix.put e2 rfl
      have fx0 : Fix H (upd H' bk (.lst (ys ++ [.ref pp]))) := (Fix.of s2).trans fx1
      refine ⟨fun σ' H'' => σ' = [some (.ref d), some (.ref b), some (.ref bk), some v1] ∧ H'' = upd H' bk (.lst (ys ++ [.ref pp])), fun σ' H'' ⟨e3, e4⟩ => ⟨q, hq, z, v1, ys ++ [.ref pp], pre ++ [m], hz, wv1, e3, ?_, ?_, ?_, ?_, ?_⟩, ?_⟩
      · rw [e4]; exact s2.put nbk
      · rw [e4]; exact upd_same
      · rw [e4]; exact Paired.snocP (pm_fix p2 fx1) ⟨pp, rfl, hm.fix fx0⟩
      · rw [← ep, List.append_assoc]
        have e5 : J.back W (n + 1) n = m :: J.back W n q := by simp [J.back, hy]
        rw [e5, back_fuel par q n hq]
        rfl
      · simp; omega
      · refine ⟨_, rfl, .inl ⟨rfl, _, SqL.of e2⟩, _, rfl, t, _, _, _, rfl, rfl, SqT.of (s2 _ _ ht), rfl, bk, _, _, rfl, rfl, e2, (by rw [sizeLine_eq]; omega), ?_⟩
        refine ⟨_, rfl, _, rfl, t, _, _, _, rfl, rfl, SqT.of (fx0 _ _ ht rfl), rfl, d, v1, rfl, .inr ⟨kvs, kOf z.1, a, ?_, rfl, by rw [kOf_map]; exact fx0 _ _ ha rfl, ev1.symm⟩, rfl, rfl⟩
        rcases hd with h | ⟨o, h⟩
        · exact .inl (by rw [upd_ne (ne_of_none h nbk)]; exact s2 _ _ h)
        · exact .inr ⟨o, by rw [upd_ne (ne_of_none h nbk)]; exact s2 _ _ h⟩
end
end Jug

namespace Jug
open PySem L2
theorem valV_mem {κ : Type} [DecidableEq κ] {k : κ} {v : V} : ∀ {L : List (κ × V)}, (L.map (·.1)).Nodup → (k, v) ∈ L → valV L k = some v
  | [], _, h => nomatch h
  | p :: L, nd, h => by
    rw [List.map_cons, List.nodup_cons] at nd
    rcases List.mem_cons.mp h with e | h'
    · subst e; exact valV_pos rfl
    · rw [valV_neg (fun e => nd.1 (by rw [e]; exact List.mem_map.mpr ⟨_, h', rfl⟩))]
      exact valV_mem nd.2 h'
theorem valV_out {κ : Type} [DecidableEq κ] {k : κ} {L : List (κ × V)} (h : k ∉ L.map (·.1)) : valV L k = none := by
  cases e : valV L k with
  | none => rfl
  | some v =>
    have h1 : (L.any fun kv => decide (kv.1 = k)) = true := by rw [valV_any, e]; rfl
    obtain ⟨kv, h2, h3⟩ := List.any_eq_true.mp h1
    exact absurd (List.mem_map.mpr ⟨kv, h2, of_decide_eq_true h3⟩) h
/-- the heights so far -/
def hs (W : List J.Way) (i : Nat) : List (List Key × V) := (List.range i).map fun j => (kOf (W.getD j ([], none)).1, V.int (J.h W j : Nat))
theorem hs_succ {W : List J.Way} {i : Nat} {x : J.Way} (h : W[i]? = some x) : hs W (i + 1) = hs W i ++ [(kOf x.1, .int (J.h W i : Nat))] := by
  unfold hs
  rw [List.range_succ, List.map_append]
  simp [List.getD_eq_getElem?_getD, h]
theorem hs_keys {W : List J.Way} {i : Nat} (hi : i ≤ W.length) : (hs W i).map (·.1) = (W.take i).map fun x => kOf x.1 := by
  unfold hs
  rw [List.map_map]
  refine List.ext_getElem? fun j => ?_
  by_cases hj : j < i
  · have hw : j < W.length := by omega
    simp [hj, hw, List.getD_eq_getElem?_getD]
  · simp [hj]; omega
theorem hs_nd {W : List J.Way} (nd : (W.map (·.1)).Nodup) {i : Nat} (hi : i ≤ W.length) : ((hs W i).map (·.1)).Nodup := by
  rw [hs_keys hi]
  have h1 : ((W.take i).map (·.1)).Nodup := by rw [List.map_take]; exact nd.sublist (List.take_sublist _ _)
  have h2 : (W.take i).map (fun x => kOf x.1) = ((W.take i).map (·.1)).map kOf := by rw [List.map_map]; rfl
  rw [h2]
  exact List.Pairwise.map _ (fun a b hab e => hab (kOf_inj e)) h1
theorem hs_get {W : List J.Way} (nd : (W.map (·.1)).Nodup) {i q : Nat} {y : J.Way} (hi : i ≤ W.length) (hq : q < i) (h : W[q]? = some y) : valV (hs W i) (kOf y.1) = some (.int (J.h W q : Nat)) := by
  refine valV_mem (hs_nd nd hi) (List.mem_map.mpr ⟨q, List.mem_range.mpr hq, ?_⟩)
  simp [List.getD_eq_getElem?_getD, h]
theorem hs_out {W : List J.Way} (nd : (W.map (·.1)).Nodup) {i : Nat} {x : J.Way} (h : W[i]? = some x) : valV (hs W i) (kOf x.1) = none := by
  have hi := (List.getElem?_eq_some_iff.mp h).1
  refine valV_out fun hk => ?_
  rw [hs_keys (by omega)] at hk
  obtain ⟨y, hy, e⟩ := List.mem_map.mp hk
  have e' := kOf_inj e
  obtain ⟨j, hj⟩ := List.mem_iff_getElem?.mp hy
  have hji : j < i := by have := (List.getElem?_eq_some_iff.mp hj).1; rw [List.length_take] at this; omega
  rw [List.getElem?_take_of_lt hji] at hj
  have h1 : (W.map (·.1))[j]? = some y.1 := by rw [List.getElem?_map, hj]; rfl
  have h2 : (W.map (·.1))[i]? = some x.1 := by rw [List.getElem?_map, h]; rfl
  have := (List.getElem?_inj (i := j) (j := i) (by simp; omega) nd).mp (by rw [h1, h2, e'])
  omega
section
variable {P : Program} {w : World} {K : PySem.W.Frag} {mg : Str → Option Value} {base : Heap} {CH CG : Addr} {Z : Cz} {G : Gz}
/-- the pairs of states and heights -/
def HtL (H : Hp) (W : List J.Way) (ys : List V) : Prop := PairsT H ys (hs W W.length)
def sp_heights (Z : Cz) : Sp := fun vs H Q _ => ∃ (d : Addr) (o : Obj) (kvs : List (List Key × V)) (W : List J.Way), vs = [.ref d] ∧ H d = some (.frz o (.dT kvs)) ∧ WD Z H W kvs W ∧ (W.map (·.1)).Nodup ∧ (∀ (i : Nat) (x : List Int) (q : Nat) (m : J.Mv), W[i]? = some (x, some (q, m)) → q < i) ∧
  W.length ≤ 2000 ∧ ∀ (l : Addr) (H' : Hp) (ys : List V), Same H H' → H' l = some (.lst ys) → HtL H' W ys → Q (.ref l) H'
theorem ok_heights {f : Addr} {fd : FuncData} (F : Fun K "heights_in" "heights_in" s_heights_in f fd) (B : Bt mg) : FnOk P w K mg base CX0 1 f fd ["ways"] (sp_heights Z) := by
  refine F.ok sc_heights_in (fun vs H Q E h => ?_) (fun cdv A outer s H vs Q E hr h => ?_)
  · obtain ⟨d, o, kvs, W, rfl, _⟩ := h
    rfl
  · obtain ⟨d, o, kvs, W, rfl, hd, wd, nd, par, hl, k⟩ := h
    have hu : _ + 1 < cLine := Nat.lt_of_le_of_lt (Nat.add_le_add_left (by decide : 1 ≤ 64) _) hr.units
    refine ⟨_, pss_cons (ps_set (i := 1) sc_heights_in.nd rfl (Or.inl rfl) pe_dnewT)
      (pss_cons (ps_for PassesOwn.never rfl (pi_dt (pv 0)) (pg_name (i := 2) sc_heights_in.nd rfl (Or.inl rfl))
        (pss_cons (ps_set (i := 3) sc_heights_in.nd rfl (Or.inl rfl) (pe_dget hu (pv 0) (pv 2) (fun _ _ => rfl)))
        (pss_one (ps_dput hu (pv 1) (pv 2) (pe_ifExp (pt_cmp (pc_isN (pv 3))) pe_int (pe_op op_add (pe_dget hu (pv 1) (pe_ix ix_tup (pv 3) pe_int (fun _ _ => rfl)) (fun _ _ => rfl)) pe_int)) rfl))))
      (pss_one (ps_ret (pe_itemsL rfl (by rfl) B.list (pv 1))))), ?_⟩
    intro he nhe
    have s1 : Same H (upd H he (.dT [])) := Same.new nhe
    refine ⟨_, rfl, d, kvs, rfl, .inr ⟨o, s1 _ _ hd, for_dt (a := d) (kvs := kvs) (o := o) (fun i σ H' => ∃ v2 v3 : Option V, σ = [some (.ref d), some (.ref he), v2, v3] ∧ Same H H' ∧ H' he = some (.dT (hs W i)))
      ⟨none, none, rfl, s1, upd_same⟩ (fun i σ H' _ ⟨_, _, _, s2, _⟩ => s2 _ _ hd) ?_ ?_⟩⟩
    · rintro i k' v b σ H' hk hb ⟨v2, v3, rfl, s4, e4⟩
      obtain ⟨x, hx, ek, _⟩ := L2.Paired.get wd hk
      have ek' : k' = kOf x.1 := ek
      subst ek'
      obtain ⟨v0, ev0, wv0⟩ := wd.get nd hx
      have hi := (List.getElem?_eq_some_iff.mp hx).1
      have lh : (hs W i).length = i := by simp [hs]
      refine ⟨_, rfl, _, rfl, d, v0, rfl, .inr ⟨kvs, kOf x.1, b, .inr ⟨o, s4 _ _ hd⟩, rfl, hb, ev0.symm⟩, ?_⟩
      refine ⟨_, rfl, _, rfl, ?_⟩
      have fin : ∀ n : Int, n = ((J.h W i : Nat) : Int) → ∃ v2 v3 : Option V, [some (.ref d), some (.ref he), some (.ref b), some v0] = [some (V.ref d), some (V.ref he), v2, v3] ∧ Same H (upd H' he (.dT (putK (hs W i) (kOf x.1) (.int n)))) ∧ (upd H' he (.dT (putK (hs W i) (kOf x.1) (.int n)))) he = some (.dT (hs W (i + 1))) := fun n en => by
        refine ⟨_, _, rfl, s4.put nhe, ?_⟩
        rw [upd_same, putK_new _ (hs_out nd hx), hs_succ hx, en]
      obtain ⟨x1, x2⟩ := x
      cases x2 with
      | none =>
        have ev : v0 = .non := wv0
        subst ev
        refine iteT ⟨_, rfl, _, rfl, he, _, rfl, DPut.t (k := kOf x1) e4 hb (by rw [sizeLine_eq]; omega), fin 0 ?_⟩
        rw [J.h_none hx]; rfl
      | some qm =>
        obtain ⟨q, m⟩ := qm
        obtain ⟨t, a, pp, z, ev, ht, hz, ha, hm⟩ := wv0
        subst ev
        have hq := par i x1 q m hx
        refine iteF ⟨_, rfl, _, rfl, t, _, _, _, rfl, rfl, SqT.of (s4 _ _ ht), rfl, he, _, rfl, .inr ⟨hs W i, kOf z.1, a, .inl e4, rfl, by rw [kOf_map]; exact s4 _ _ ha, (hs_get nd (by omega) hq hz).symm⟩, _, _, rfl, rfl, ?_⟩
        refine ⟨_, rfl, _, rfl, he, _, rfl, DPut.t (k := kOf x1) e4 hb (by rw [sizeLine_eq]; omega), fin _ ?_⟩
        rw [J.h_some hx hq]
        omega
    · rintro σ H' ⟨v2, v3, rfl, s4, e4⟩
      have lw : kvs.length = W.length := wd.length
      rw [lw] at e4
      exact ⟨_, rfl, he, _, rfl, .inl e4, fun l H2 ys s5 nl e5 p5 => k l H2 ys (s4.trans s5) e5 p5⟩
end
end Jug

namespace Jug
open PySem L2
/-! ### answers -/
def rTupOf (K : PySem.W.Frag) : List V → Hp → VK → Prop := fun xs H Q => ∃ p ys, xs = [.ref p] ∧ ((SqL K H p ys ∧ ∀ l, H l = none → Q (.ref l) (upd H l (.tup ys))) ∨ (SqT K H p ys ∧ Q (.ref p) H))
theorem call_tuple_ofK {X : Cx} (K : PySem.W.Frag) (hK : X.K = K := by rfl) : CallR X (.type "tuple") (rTupOf K) := by subst hK; exact call_tuple_of
def baF (r : Addr) : List (Str × V) := putF "among" (.ref r) []
def anF (a b : Addr) : List (Str × V) := putF "heights" (.ref b) (putF "pours" (.ref a) [])
structure CBa (K : PySem.W.Frag) (C : Addr) : Prop where
  cl : Cls K C
  among : PySem.W.findIn K (.ref C) "among" = some none
structure CPd (K : PySem.W.Frag) (C : Addr) : Prop where
  cl : Cls K C
  pours : PySem.W.findIn K (.ref C) "pours" = some none
  heights : PySem.W.findIn K (.ref C) "heights" = some none
section
variable {P : Program} {w : World} {K : PySem.W.Frag} {mg : Str → Option Value} {base : Heap} {CH CG CP CB : Addr} {Z : Cz} {G : Gz}
def sp_Barred_init (CB : Addr) : Sp := fun vs H Q _ => ∃ (p dx l : Addr) (xs : List V), vs = [.ref p, .ref l] ∧ H p = some (.ins CB dx []) ∧ H l = some (.lst xs) ∧
  ∀ (r : Addr) (H' : Hp), (∀ c o, H c = some o → c ≠ p → H' c = some o) → H' p = some (.ins CB dx (baF r)) → H' r = some (.lst xs) → Q .non H'
theorem ok_Barred_init {f : Addr} {fd : FuncData} (F : Fun K "__init__" "Barred.__init__" s_Barred_init f fd) (B : Bt mg) (C : CBa K CB) : FnOk P w K mg base CX0 1 f fd ["self", "among"] (sp_Barred_init CB) := by
  refine F.ok sc_Barred_init (fun vs H Q E h => ?_) (fun cdv A outer s H vs Q E hr h => ?_)
  · obtain ⟨p, dx, l, xs, rfl, _⟩ := h
    rfl
  · obtain ⟨p, dx, l, xs, rfl, hp, hl, k⟩ := h
    refine ⟨_, pss_one (ps_fld (pv 0) (pe_callTy call_list_of (by rfl) B.list bt_list (pa_cons (pv 1) pa_nil)) rfl), ?_⟩
    refine ⟨_, rfl, l, xs, rfl, .inl (SqL.of hl), fun r nr => ?_⟩
    have s1 : Same H (upd H r (.lst xs)) := Same.new nr
    have rp : r ≠ p := (ne_of_none hp nr).symm
    refine ⟨_, rfl, p, CB, dx, [], rfl, s1 _ _ hp, C.cl, C.among, (by show 0 < 1000; decide), ?_⟩
    exact k r _ (fun c o e hc => by rw [upd_ne hc]; exact s1 _ _ e) upd_same (by rw [upd_ne rp, upd_same])
def sp_Poured_init (CP : Addr) : Sp := fun vs H Q _ => ∃ (p dx l m : Addr) (xs ys : List V), vs = [.ref p, .ref l, .ref m] ∧ H p = some (.ins CP dx []) ∧ H l = some (.lst xs) ∧ H m = some (.lst ys) ∧ ys.length ≤ 2000 ∧ (∀ y ∈ ys, ∃ t zs, y = .ref t ∧ H t = some (.tup zs)) ∧
  ∀ (r q : Addr) (H' : Hp), (∀ c o, H c = some o → c ≠ p → H' c = some o) → H' p = some (.ins CP dx (anF r q)) → H' r = some (.lst xs) → H' q = some (.lst ys) → Q .non H'
theorem ok_Poured_init {f : Addr} {fd : FuncData} (F : Fun K "__init__" "Poured.__init__" s_Poured_init f fd) (B : Bt mg) (C : CPd K CP) : FnOk P w K mg base CX0 1 f fd ["self", "pours", "heights"] (sp_Poured_init CP) := by
  refine F.ok sc_Poured_init (fun vs H Q E h => ?_) (fun cdv A outer s H vs Q E hr h => ?_)
  · obtain ⟨p, dx, l, m, xs, ys, rfl, _⟩ := h
    rfl
  · obtain ⟨p, dx, l, m, xs, ys, rfl, hp, hl, hm, hlen, hty, k⟩ := h
    refine ⟨_, pss_cons (ps_fld (pv 0) (pe_callTy call_list_of (by rfl) B.list bt_list (pa_cons (pv 1) pa_nil)) rfl)
      (pss_one (ps_fld (pv 0) (pe_lc sc_Poured_init [] (pi_list (pv 2)) (fun _ _ _ _ _ _ => ⟨pif_nil, pe_callTy (call_tuple_ofK K) (by rfl) B.tuple bt_tuple (pa_cons (pv 0) pa_nil)⟩)) rfl)), ?_⟩
    refine ⟨_, rfl, l, xs, rfl, .inl (SqL.of hl), fun r nr => ?_⟩
    have s1 : Same H (upd H r (.lst xs)) := Same.new nr
    have rp : r ≠ p := (ne_of_none hp nr).symm
    refine ⟨_, rfl, p, CP, dx, [], rfl, s1 _ _ hp, C.cl, C.pours, (by show 0 < 1000; decide), ?_⟩
    have mp : m ≠ p := ne_of hm hp (by intro h; cases h)
    have hm2 : (upd (upd H r (.lst xs)) p (.ins CP dx (putF "pours" (.ref r) []))) m = some (.lst ys) := by rw [upd_ne mp]; exact s1 _ _ hm
    refine ⟨_, rfl, m, rfl, ⟨_, SqL.of hm2⟩, lc_list (xs := ys) (fun i zs H' => H' = upd (upd H r (.lst xs)) p (.ins CP dx (putF "pours" (.ref r) [])) ∧ zs = ys.take i) ⟨rfl, rfl⟩ (by rw [sizeLine_eq]; omega) (fun i zs H' ⟨_, e⟩ => by rw [e]; simp; omega)
      (fun i zs H' _ ⟨e, _⟩ => by rw [e]; exact SqL.of hm2) ?_ ?_⟩
    · rintro i x zs H2 hx ⟨rfl, rfl⟩
      obtain ⟨t, us, rfl, ht⟩ := hty x (List.mem_of_getElem? hx)
      have tp : t ≠ p := ne_of ht hp (by intro h; cases h)
      refine tYes_of ⟨_, rfl, t, us, rfl, .inr ⟨SqT.of (by rw [upd_ne tp]; exact s1 _ _ ht), rfl, ?_⟩⟩
      rw [List.take_add_one, hx]
      rfl
    · rintro zs H2 ⟨rfl, rfl⟩ D nD
      have Dp : D ≠ p := fun e => by subst e; rw [upd_same] at nD; cases nD
      have Dr : D ≠ r := fun e => by subst e; rw [upd_ne rp, upd_same] at nD; cases nD
      rw [List.take_length]
      refine ⟨_, rfl, p, CP, dx, _, rfl, (by rw [upd_ne Dp.symm, upd_same]), C.cl, C.heights, (by show 1 < 1000; decide), ?_⟩
      refine k r D _ (fun c o e hc => ?_) upd_same ?_ ?_
      · have cD : c ≠ D := fun z => by
          subst z
          rw [upd_ne hc] at nD
          rw [s1 _ _ e] at nD; cases nD
        rw [upd_ne hc, upd_ne cD, upd_ne hc]
        exact s1 _ _ e
      · rw [upd_ne rp, upd_ne Dr.symm, upd_ne rp, upd_same]
      · rw [upd_ne Dp, upd_same]
end
end Jug

namespace Jug
open PySem L2
/-! ### the fewest -/
def PouredAt (CP : Addr) (Z : Cz) (H : Hp) (r : Addr) (W : List J.Way) (i : Nat) : Prop := ∃ dx a b xs ys, H r = some (.ins CP dx (anF a b)) ∧ H a = some (.lst xs) ∧ Paired (isM Z H) xs (J.back W (i + 1) i).reverse ∧ H b = some (.lst ys) ∧ HtL H W ys
def BarredAt (CB : Addr) (H : Hp) (r : Addr) (W : List J.Way) : Prop := ∃ dx a xs, H r = some (.ins CB dx (baF a)) ∧ H a = some (.lst xs) ∧ Paired (isTI H) xs (W.map (·.1))
theorem HtL.fix {H H' : Hp} {W : List J.Way} {ys : List V} (h : HtL H W ys) (s : Fix H H') : HtL H' W ys := Paired.mapP h fun _ _ ⟨t, b, e, h1, h2⟩ => ⟨t, b, e, s _ _ h1 rfl, s _ _ h2 rfl⟩
theorem keysT_ways {Z : Cz} {H : Hp} {V' : List J.Way} : ∀ {ys : List V} {kvs : List (List Key × V)} {W : List J.Way}, KeysT H ys kvs → WD Z H V' kvs W → Paired (isTI H) ys (W.map (·.1))
  | _, _, _, .nil, .nil => .nil
  | _, _, _, .cons ⟨b, e, hb⟩ t, .cons h t' => .cons ⟨b, e, by rw [hb, h.1, kOf_map]⟩ (keysT_ways t t')
theorem Fix.of_sameB {d : Addr} {H H' : Hp} {kvs : List (List Key × V)} (hd : H d = some (.dT kvs)) (s : SameB d H H') : Fix H H' := fun c _ e f => s c _ e (ne_of_fx e hd f)
section
variable {P : Program} {w : World} {K : PySem.W.Frag} {mg : Str → Option Value} {base : Heap} {CH CG CP CB : Addr} {Z : Cz} {G : Gz}
def sp_fewest (Z : Cz) (G : Gz) (CH CP CB : Addr) : Sp := fun vs H Q _ => ∃ (h a p : Addr) (sz : List Int) (tap : Bool) (st : List Int) (g : Go), vs = [.ref h, .ref a, .ref p] ∧ House CH H h sz tap ∧ Hz sz ∧ H a = some (.tup (st.map V.int)) ∧ J.IsSt sz st ∧ GoAt G H p g ∧ g.ok sz ∧
  (∀ (i : Nat) (x : J.Way) (r : Addr) (H' : Hp), (J.ways sz (J.moves sz.length tap) st)[i]? = some x → g.met x.1 = true → (∀ (j : Nat) (y : J.Way), j < i → (J.ways sz (J.moves sz.length tap) st)[j]? = some y → g.met y.1 = false) → Same H H' → H r = none →
    PouredAt CP Z H' r (J.ways sz (J.moves sz.length tap) st) i → Q (.ref r) H') ∧
  ((∀ x ∈ J.ways sz (J.moves sz.length tap) st, g.met x.1 = false) → ∀ (r : Addr) (H' : Hp), Same H H' → H r = none → BarredAt CB H' r (J.ways sz (J.moves sz.length tap) st) → Q (.ref r) H')
theorem ok_fewest {f : Addr} {fd : FuncData} (F : Fun K "fewest" "fewest" s_fewest f fd) (B : Bt mg) (HI : FnB P w K mg base 2 "held_in" ["house", "state"] (sp_held_in CH)) (CK : FnB P w K mg base 1 "check_goal" ["goal"] (sp_check_goal G))
    (WY : FnB P w K mg base 8 "ways_from" ["house", "state"] (sp_ways Z CH)) (NE : FnB P w K mg base 6 "nearest" ["house", "ways", "goal"] (sp_nearest Z G CH)) (MT : FnB P w K mg base 1 "moves_to" ["ways", "state"] (sp_moves_to Z))
    (HE : FnB P w K mg base 1 "heights_in" ["ways"] (sp_heights Z)) (MP : MkB P w K mg base 1 "Poured" CP ["self", "pours", "heights"] (sp_Poured_init CP)) (MB : MkB P w K mg base 1 "Barred" CB ["self", "among"] (sp_Barred_init CB)) :
    FnOk P w K mg base CX0 9 f fd ["house", "state", "goal"] (sp_fewest Z G CH CP CB) := by
  refine F.ok sc_fewest (fun vs H Q E h => ?_) (fun cdv A outer s H vs Q E hr h => ?_)
  · obtain ⟨h, a, p, sz, tap, st, g, rfl, _⟩ := h
    rfl
  · obtain ⟨h, a, p, sz, tap, st, g, rfl, hh, hz, ha, hst, hg, hok, kP, kB⟩ := h
    refine ⟨_, pss_cons (ps_expr (pe_fn HI (hr.mono (by decide)) (pa_cons (pv 0) (pa_cons (pv 1) pa_nil))))
      (pss_cons (ps_expr (pe_fn CK (hr.mono (by decide)) (pa_cons (pv 2) pa_nil)))
      (pss_cons (ps_set (i := 3) sc_fewest.nd rfl (Or.inl rfl) (pe_fn WY hr (pa_cons (pv 0) (pa_cons (pv 1) pa_nil))))
      (pss_cons (ps_set (i := 4) sc_fewest.nd rfl (Or.inl rfl) (pe_fn NE (hr.mono (by decide)) (pa_cons (pv 0) (pa_cons (pv 3) (pa_cons (pv 2) pa_nil)))))
      (pss_cons (ps_if (pt_cmp (pc_isN (pv 4))) (pss_one (ps_ret (pe_mk MB (hr.mono (by decide)) (pa_cons (pe_callTy (call_list_dt rfl) (by rfl) B.list bt_list (pa_cons (pv 3) pa_nil)) pa_nil)))) pss_nil)
      (pss_one (ps_ret (pe_mk MP (hr.mono (by decide)) (pa_cons (pe_fn MT (hr.mono (by decide)) (pa_cons (pv 3) (pa_cons (pv 4) pa_nil))) (pa_cons (pe_fn HE (hr.mono (by decide)) (pa_cons (pv 3) pa_nil)) pa_nil))))))))), ?_⟩
    have hgd := J.good_moves (tap := tap) hz.nn
    have wi := J.ways_inv hgd hst
    have wl : (J.ways sz (J.moves sz.length tap) st).length ≤ 2000 := by
      have := J.run_le hgd hst (J.states sz).length
      have := hz.states_le
      unfold J.ways
      omega
    have par : ∀ (i : Nat) (x : List Int) (q : Nat) (m : J.Mv), (J.ways sz (J.moves sz.length tap) st)[i]? = some (x, some (q, m)) → q < i := fun i x q m e => (wi.par i x q m e).2.1
    refine ⟨_, rfl, _, rfl, h, sz, tap, a, st, rfl, hh, ha, hst, fun y H1 s1 ny ey => ?_⟩
    refine ⟨_, rfl, p, g, rfl, hg.mono s1, fun H2 s2 => ?_⟩
    have s12 := s1.trans s2
    refine ⟨_, rfl, _, rfl, h, a, sz, tap, st, rfl, hh.mono s12, hz, s12 _ _ ha, hst, fun d H3 kvs s3 nd e3 wd => ?_⟩
    have s13 := s12.trans s3
    have nd0 : H d = none := by
      cases e : H d with
      | none => rfl
      | some o => have := s12 _ _ e; rw [nd] at this; cases this
    refine ⟨_, rfl, _, rfl, _, rfl, h, d, p, sz, tap, g, kvs, _, rfl, hh.mono s13, hg.mono s13, hok, e3, wd, wi.sts, fun H4 o s4 e4 => ?_⟩
    have f4 : Fix H3 H4 := Fix.of_sameB e3 s4
    have s14 : Same H H4 := fun c u e => s4 c u (s13 _ _ e) (ne_of_none e nd0)
    have wd4 := wd.fix f4
    refine ⟨fun i x b hx hm no hb => ?_, fun no => ?_⟩
    · refine ⟨_, rfl, _, rfl, iteF ?_⟩
      refine ⟨_, rfl, _, rfl, d, b, kvs, _, i, x, rfl, .inr ⟨o, e4⟩, wd4, wi.nd, par, wl, hx, hb, fun l H5 xs s5 e5 p5 => ?_⟩
      refine ⟨_, rfl, d, o, kvs, _, rfl, s5 _ _ e4, wd4.fix (Fix.of s5), wi.nd, par, wl, fun m H6 ys s6 e6 p6 => fun r dx nr ndx nex => ?_⟩
      have ls : Same H6 (upd (upd H6 dx (.own r)) r (.ins CP dx [])) := fun c u e => by rw [upd_ne (ne_of_none e nr), upd_ne (ne_of_none e ndx)]; exact e
      have ly : ys.length ≤ 2000 := by have := Paired.length p6; simp [hs] at this; omega
      refine ⟨r, dx, l, m, xs, ys, rfl, upd_same, ls _ _ (s6 _ _ e5), ls _ _ e6, ly, fun y hy => ?_, fun r1 q1 H7 kp hr7 e7 e8 => ⟨rfl, ?_⟩⟩
      · obtain ⟨j, hj⟩ := List.mem_iff_getElem?.mp hy
        obtain ⟨kv, _, t, b', e, h1, h2⟩ := L2.Paired.get p6 hj
        exact ⟨t, _, e, ls _ _ h1⟩
      · have s67 : Same H6 H7 := fun c u e => kp c u (ls _ _ e) (ne_of_none e nr)
        have nr0 : H r = none := by
          cases e : H r with
          | none => rfl
          | some u => have := s6 _ _ (s5 _ _ (s14 _ _ e)); rw [nr] at this; cases this
        exact kP i x r H7 hx hm no (((s14.trans s5).trans s6).trans s67) nr0 ⟨dx, r1, q1, xs, ys, hr7, e7, pm_fix p5 ((Fix.of s6).trans (Fix.of s67)), e8, p6.fix (Fix.of s67)⟩
    · refine ⟨_, rfl, _, rfl, iteT ?_⟩
      refine ⟨_, rfl, d, kvs, rfl, .inr ⟨o, e4⟩, fun l ys nl ky => fun r dx nr ndx nex => ?_⟩
      have s45 : Same H4 (upd H4 l (.lst ys)) := Same.new nl
      have ls : Same (upd H4 l (.lst ys)) (upd (upd (upd H4 l (.lst ys)) dx (.own r)) r (.ins CB dx [])) := fun c u e => by rw [upd_ne (ne_of_none e nr), upd_ne (ne_of_none e ndx)]; exact e
      refine ⟨r, dx, l, ys, rfl, upd_same, ls _ _ upd_same, fun r1 H7 kp hr7 e7 => ⟨rfl, ?_⟩⟩
      have s57 : Same (upd H4 l (.lst ys)) H7 := fun c u e => kp c u (ls _ _ e) (ne_of_none e nr)
      have nr0 : H r = none := by
        cases e : H r with
        | none => rfl
        | some u => have := s45 _ _ (s14 _ _ e); rw [nr] at this; cases this
      exact kB no r H7 ((s14.trans s45).trans s57) nr0 ⟨dx, r1, ys, hr7, e7, pt_fix (keysT_ways ky wd4) ((Fix.of s45).trans (Fix.of s57))⟩
end
end Jug

namespace Jug
open PySem L2
/-! ### what the laws draw -/
def prm : List Int := [1000003, 1000033, 1000037, 1000039, 1000081, 1000099, 1000117, 1000121, 1000133, 1000151, 1000159, 1000171, 1000183, 1000187, 1000193, 1000199]
theorem prm_pos : ∀ j : Nat, j < 16 → 0 < J.at0 prm j := by decide
section
variable {P : Program} {w : World} {K : PySem.W.Frag} {mg : Str → Option Value} {base : Heap} {CH : Addr} {Z : Cz}
def sp_cell_at (K : PySem.W.Frag) : Sp := fun vs H Q _ => ∃ (a : Addr) (ns : List Int) (k : Int), vs = [.ref a, .int k] ∧ SqL K H a (ns.map V.int) ∧ 0 ≤ k ∧ ∀ c : Int, Q (.int c) H
theorem ok_cell_at {f : Addr} {fd : FuncData} (F : Fun K "_law_cell_at" "_law_cell_at" s__law_cell_at f fd) (B : Bt mg) : FnOk P w K mg base CX0 1 f fd ["_law_script", "_law_k"] (sp_cell_at K) := by
  refine F.ok sc__law_cell_at (fun vs H Q E h => ?_) (fun cdv A outer s H vs Q E hr h => ?_)
  · obtain ⟨a, ns, k, rfl, _⟩ := h
    rfl
  · obtain ⟨a, ns, k, rfl, ha, hk, q⟩ := h
    refine ⟨_, pss_cons (ps_if (pt_cmpR op_lt (pv 1) (pe_callB call_len_seq (by rfl) B.len PySem.boot_len (pa_cons (pv 0) pa_nil)) (nomark _)) (pss_one (ps_ret (pe_ix ix_list (pv 0) (pv 1) (fun _ _ => rfl)))) pss_nil) (pss_one (ps_ret pe_int)), ?_⟩
    refine ⟨_, rfl, _, rfl, a, _, rfl, .inl ha, _, _, rfl, rfl, _, rfl, ite2 (fun hlt => ?_) (fun _ => q 0)⟩
    have hlt : k < ((ns.map V.int).length : Int) := of_decide_eq_true hlt
    rw [List.length_map] at hlt
    refine ⟨_, rfl, _, rfl, a, _, _, .int (J.at0 ns k.toNat), rfl, rfl, ha, ?_, q _⟩
    have e : ((k.toNat : Nat) : Int) = k := Int.toNat_of_nonneg hk
    rw [← e]
    exact atI_nat (getV_of (by omega))
def sp_draw : Sp := fun vs H Q _ => ∃ c k m : Int, vs = [.int c, .int k, .int m] ∧ 0 ≤ k ∧ 0 < m ∧ ∀ r H', 0 ≤ r → r < m → Same H H' → Q (.int r) H'
theorem ok_draw {f : Addr} {fd : FuncData} (F : Fun K "_law_draw" "_law_draw" s__law_draw f fd) : FnOk P w K mg base CX0 1 f fd ["_law_cell", "_law_k", "_law_many"] sp_draw := by
  refine F.ok sc__law_draw (fun vs H Q E h => ?_) (fun cdv A outer s H vs Q E hr h => ?_)
  · obtain ⟨c, k, m, rfl, _⟩ := h
    rfl
  · obtain ⟨c, k, m, rfl, hk, hm, q⟩ := h
    refine ⟨_, @pss_cons _ _ _ _ _ (@ps_set _ _ 3 "_law_primes" _ _ _ sc__law_draw.nd rfl (Or.inl rfl) (@pe_tup _ _ _ _ _ (@pa_ints _ _ prm (by decide +kernel))) rfl (.inl rfl))
      (pss_one (ps_ret (pe_op op_mod (pe_op op_mod (pe_op op_add (pe_op op_mul (pv 0) pe_int) (pe_op op_mul (pv 1) pe_int)) (pe_ix ix_tup (pv 3) (pe_op op_mod (pv 1) pe_int) (fun _ _ => rfl))) (pv 2)))), ?_⟩
    refine ⟨(by show 16 ≤ sizeLine; decide), fun t nt => ?_⟩
    have e : (((k % 16).toNat : Nat) : Int) = k % 16 := Int.toNat_of_nonneg (by omega)
    have hlt : (k % 16).toNat < 16 := by omega
    refine ⟨_, rfl, _, _, rfl, rfl, .inr ⟨by decide, by decide⟩, _, rfl, _, _, rfl, rfl, .inr ⟨by decide, by decide⟩, _, _, rfl, rfl, _, rfl, _, rfl, _, _, rfl, rfl, (by show (0 : Int) < 16; decide), t, _, _, .int (J.at0 prm (k % 16).toNat), rfl, rfl, SqT.of upd_same,
      by show atI (prm.map V.int) (k % 16) = _; rw [← e]; exact atI_nat (getV_of hlt), _, _, rfl, rfl, prm_pos _ hlt, _, rfl, _, _, rfl, rfl, hm, ?_⟩
    exact q _ _ (Int.emod_nonneg _ (by omega)) (Int.emod_lt_of_pos _ hm) (Same.new nt)
end
/-- a statement and the rest, with what holds between them said -/
def tCut (t u : TS) : TS := fun D σ H => ∃ R : St → Hp → Prop, t { D with nx := R } σ H ∧ ∀ σ' H', R σ' H' → u D σ' H'
theorem pss_cut {X : Cx} {st : Stmt} {rest : List Stmt} {t u : TS} (h1 : PS X st t) (h2 : PSs X rest u) : PSs X (st :: rest) (tCut t u) := by
  intro pins s σ H D I ⟨R, h, hR⟩
  refine wpAny_execs_cons (thn (h1 pins s σ H { D with nx := R } I h) fun f s1 q => ?_)
  cases f with
  | next => obtain ⟨σ', H', I', q'⟩ := q; exact h2 pins s1 σ' H' D I' (hR σ' H' q')
  | ret v => exact q
  | brk => exact q
  | cont => exact q
theorem bt_max : bootBuiltins "max" = some (.builtin "max") := by decide +kernel
/-! ### the law's own -/
section
variable {P : Program} {w : World} {K : PySem.W.Frag} {mg : Str → Option Value} {base : Heap} {CH CG CP CB : Addr} {Z : Cz} {G : Gz}
def sp_common : Sp := fun vs H Q _ => ∃ a b : Nat, vs = [.int a, .int b] ∧ 1 ≤ a ∧ 1 ≤ b ∧ a ≤ 60 ∧ b ≤ 60 ∧ Q (.int (J.cmn a b : Nat)) H
theorem ok_common {f : Addr} {fd : FuncData} (F : Fun K "_law_common" "_law_common" s__law_common f fd) (B : Bt mg) : FnOk P w K mg base CX0 1 f fd ["_law_one", "_law_other"] sp_common := by
  refine F.ok sc__law_common (fun vs H Q E h => ?_) (fun cdv A outer s H vs Q E hr h => ?_)
  · obtain ⟨a, b, rfl, _⟩ := h
    rfl
  · obtain ⟨a, b, rfl, ha, hb, ha6, hb6, k⟩ := h
    refine ⟨_, pss_cons (ps_set (i := 2) sc__law_common.nd rfl (Or.inl rfl) pe_int)
      (pss_cons (ps_for PassesOwn.never rfl (pi_range2 (by rfl) B.range (pa_cons pe_int (pa_cons (pe_op op_add (pe_callB (call_min2 rfl) (by rfl) B.min bt_min (pa_cons (pv 0) (pa_cons (pv 1) pa_nil))) pe_int) pa_nil))) (pg_name (i := 3) sc__law_common.nd rfl (Or.inl rfl))
        (pss_one (ps_if (PW.pt (pw_and (pt_cmpR op_eq (pe_op op_mod (pv 0) (pv 3)) pe_int (nomark _)) (pw_and1 (pt_cmpR op_eq (pe_op op_mod (pv 1) (pv 3)) pe_int (nomark _))))) (pss_one (ps_set (i := 2) sc__law_common.nd rfl (Or.inl rfl) (pv 3))) pss_nil)))
      (pss_one (ps_ret (pv 2)))), ?_⟩
    have emin : ((if (b : Int) < a then (b : Int) else a) + 1 - 2).toNat = min a b - 1 := by split <;> omega
    refine ⟨_, rfl, _, rfl, _, _, rfl, _, _, rfl, rfl, 2, _, rfl, ⟨by decide, by decide, by split <;> omega, by split <;> omega⟩, ?_⟩
    rw [emin]
    refine for_range (lo := 2) (n := min a b - 1) (fun i σ H' => ∃ v3 : Option V, σ = [some (.int a), some (.int b), some (.int ((List.range' 2 i).foldl (fun f m => if a % m = 0 ∧ b % m = 0 then m else f) 1 : Nat)), v3] ∧ H' = H) ⟨none, rfl, rfl⟩ ?_ ?_
    · rintro i σ H' hi ⟨v3, rfl, rfl⟩
      have e0 : (2 : Int) + (i : Int) = ((2 + i : Nat) : Int) := by omega
      have ea : decide (V.int ((a : Int) % (2 + (i : Int))) = V.int 0) = decide (a % (2 + i) = 0) := by
        rw [e0, ← Int.natCast_emod, Bool.eq_iff_iff, decide_eq_true_iff, decide_eq_true_iff]
        constructor
        · intro h; injection h with h; omega
        · intro h; rw [h]; rfl
      have eb : decide (V.int ((b : Int) % (2 + (i : Int))) = V.int 0) = decide (b % (2 + i) = 0) := by
        rw [e0, ← Int.natCast_emod, Bool.eq_iff_iff, decide_eq_true_iff, decide_eq_true_iff]
        constructor
        · intro h; injection h with h; omega
        · intro h; rw [h]; rfl
      have nx : ∀ c : Prop, [Decidable c] → ((a % (2 + i) = 0 ∧ b % (2 + i) = 0) ↔ c) → (List.range' 2 (i + 1)).foldl (fun f m => if a % m = 0 ∧ b % m = 0 then m else f) 1 = if c then 2 + i else (List.range' 2 i).foldl (fun f m => if a % m = 0 ∧ b % m = 0 then m else f) 1 := fun c _ hc => by
        rw [List.range'_1_concat, List.foldl_append]
        show (if a % (2 + i) = 0 ∧ b % (2 + i) = 0 then 2 + i else _) = _
        by_cases h : c
        · rw [if_pos h, if_pos (hc.mpr h)]
        · rw [if_neg h, if_neg (fun z => h (hc.mp z))]
      refine ⟨_, rfl, _, rfl, _, _, rfl, rfl, (by omega), rfl, _, rfl, ?_⟩
      rw [ea]
      by_cases c1 : a % (2 + i) = 0
      · rw [decide_eq_true c1]
        refine iteT ⟨_, rfl, _, rfl, _, _, rfl, rfl, (by omega), rfl, _, rfl, ?_⟩
        rw [eb]
        by_cases c2 : b % (2 + i) = 0
        · rw [decide_eq_true c2]
          refine iteT ⟨_, rfl, some (.int (2 + (i : Int))), ?_, rfl⟩
          rw [nx True ⟨fun _ => trivial, fun _ => ⟨c1, c2⟩⟩, if_pos trivial, ← e0]
          rfl
        · rw [decide_eq_false c2]
          refine iteF ⟨some (.int (2 + (i : Int))), ?_, rfl⟩
          rw [nx False ⟨fun h => c2 h.2, False.elim⟩, if_neg (fun h => h)]
          rfl
      · rw [decide_eq_false c1]
        refine iteF ?_
        refine iteF ⟨some (.int (2 + (i : Int))), ?_, rfl⟩
        rw [nx False ⟨fun h => c1 h.1, False.elim⟩, if_neg (fun h => h)]
        rfl
    · rintro σ H' ⟨v3, rfl, rfl⟩
      exact ⟨_, rfl, k⟩
end
end Jug

namespace Jug
open PySem L2
theorem eq_sorted {l₁ l₂ : List Int} (n1 : l₁.Nodup) (n2 : l₂.Nodup) (s1 : l₁.Pairwise (· ≤ ·)) (s2 : l₂.Pairwise (· ≤ ·)) (h : ∀ v, v ∈ l₁ ↔ v ∈ l₂) : l₁ = l₂ :=
  List.Perm.eq_of_pairwise (fun a b _ _ h1 h2 => Int.le_antisymm h1 h2) s1 s2 ((List.perm_ext_iff_of_nodup n1 n2).mpr h)
/-- 0, g, 2 g .. up to M -/
def mult (g M : Nat) : List Int := (List.range (M / g + 1)).map fun (m : Nat) => (0 : Int) + m * (g : Int)
theorem mult_nd {g : Nat} (hg : 1 ≤ g) (M : Nat) : (mult g M).Nodup := by
  unfold mult
  refine List.Pairwise.map _ (fun a b hab e => hab ?_) List.nodup_range
  have : (a : Int) * g = b * g := by omega
  exact_mod_cast Int.eq_of_mul_eq_mul_right (by omega) this
theorem mult_sorted (g M : Nat) : (mult g M).Pairwise (· ≤ ·) := by
  unfold mult
  refine List.Pairwise.map _ (fun a b hab => ?_) List.pairwise_lt_range
  have : (a : Int) * g ≤ b * g := Int.mul_le_mul_of_nonneg_right (by omega) (by omega)
  omega
theorem mult_mem {g M : Nat} (hg : 1 ≤ g) (v : Int) : v ∈ mult g M ↔ 0 ≤ v ∧ v ≤ (M : Int) ∧ (g : Int) ∣ v := by
  unfold mult
  constructor
  · intro h
    obtain ⟨m, hm, rfl⟩ := List.mem_map.mp h
    have h1 := List.mem_range.mp hm
    have h2 : m * g ≤ M := (Nat.le_div_iff_mul_le hg).mp (by omega)
    have h3 : (m : Int) * g ≤ M := by exact_mod_cast h2
    refine ⟨by have : (0 : Int) ≤ (m : Int) * g := Int.mul_nonneg (by omega) (by omega); omega, by omega, ?_⟩
    rw [Int.zero_add]
    exact Int.dvd_mul_left _ _
  · rintro ⟨h0, h1, k, rfl⟩
    have hk : 0 ≤ k := by
      rcases Int.lt_or_le k 0 with h | h
      · have : (g : Int) * k < 0 := Int.mul_neg_of_pos_of_neg (by omega) h
        omega
      · exact h
    obtain ⟨n, rfl⟩ : ∃ n : Nat, k = n := ⟨k.toNat, by omega⟩
    have h2 : n * g ≤ M := by
      have : (g : Int) * n ≤ M := h1
      rw [Int.mul_comm] at this
      exact_mod_cast this
    refine List.mem_map.mpr ⟨n, List.mem_range.mpr (by have := (Nat.le_div_iff_mul_le hg).mpr h2; omega), ?_⟩
    rw [Int.zero_add, Int.mul_comm]
theorem hz2 {a b : Nat} (ha : 1 ≤ a) (hb : 1 ≤ b) (h : (a ≤ 20 ∧ b ≤ 60) ∨ (a ≤ 60 ∧ b ≤ 20)) : Hz [(a : Int), (b : Int)] := by
  refine ⟨by simp, by simp, fun s hs => ?_, ?_⟩
  · simp at hs
    rcases hs with rfl | rfl <;> omega
  · simp only [J.prod1, List.foldl_cons, List.foldl_nil]
    rw [Int.one_mul]
    rcases h with ⟨h1, h2⟩ | ⟨h1, h2⟩
    · have : ((a : Int) + 1) * ((b : Int) + 1) ≤ 21 * 61 := Int.mul_le_mul (by omega) (by omega) (by omega) (by omega)
      omega
    · have : ((a : Int) + 1) * ((b : Int) + 1) ≤ 61 * 21 := Int.mul_le_mul (by omega) (by omega) (by omega) (by omega)
      omega
theorem rng_size {g M : Nat} (hg : 1 ≤ g) : Builtin.Range.rangeSize 0 (((M : Nat) : Int) + 1) (g : Int) = ((M / g + 1 : Nat) : Int) := by
  unfold Builtin.Range.rangeSize
  rw [if_pos (by omega), if_pos (by omega)]
  have e : ((M : Nat) : Int) + 1 - 0 - 1 = ((M : Nat) : Int) := by omega
  rw [e]
  rfl
theorem rng_small {g M : Nat} (hM : M ≤ 60) (hg : 1 ≤ g) (hG : g ≤ 60) : Builtin.Range.small 0 (((M : Nat) : Int) + 1) (g : Int) = true := by
  unfold Builtin.Range.small
  rw [rng_size hg]
  have h1 := Nat.div_le_self M g
  generalize M / g = q at h1 ⊢
  rw [if_pos (by omega)]
  simp only [Builtin.Range.rangeFitsLong, Bool.and_eq_true, Bool.or_eq_true, decide_eq_true_eq, beq_iff_eq]
  omega
section
variable {P : Program} {w : World} {K : PySem.W.Frag} {mg : Str → Option Value} {base : Heap} {CH CG CP CB : Addr} {Z : Cz} {G : Gz}
def spLaw (K : PySem.W.Frag) : Sp := fun vs H Q _ => ∃ (a : Addr) (ns : List Int), vs = [.ref a] ∧ SqL K H a (ns.map V.int) ∧ ns.length ≤ 63 ∧ ∀ H', Q (.bl true) H'
theorem ok_law6 {f : Addr} {fd : FuncData} (F : Fun K "law" "law" s_law f fd) (B : Bt mg) (hmx : mg "max" = none) (gP : mg "Poured" = some (.ref CP)) (gB : mg "Barred" = some (.ref CB)) (kP : CPd K CP) (kB : CBa K CB) (tP : CTy K CP) (tB : CTy K CB)
    (D : FnB P w K mg base 1 "_law_draw" ["_law_cell", "_law_k", "_law_many"] sp_draw) (CA : FnB P w K mg base 1 "_law_cell_at" ["_law_script", "_law_k"] (sp_cell_at K)) (CO : FnB P w K mg base 1 "_law_common" ["_law_one", "_law_other"] sp_common)
    (MH : MkB P w K mg base 3 "House" CH ["self", "sizes", "tap"] (sp_House_init CH)) (EM : MeB P w K mg base 1 CH "empty" ["self"] (sp_empty CH)) (ME : FnB P w K mg base 9 "measured" ["house", "state"] (sp_measured CH))
    (FW : FnB P w K mg base 9 "fewest" ["house", "state", "goal"] (sp_fewest Z G CH CP CB)) (MS : MkB P w K mg base 3 "Some" G.S ["self", "many"] (sp_Some_init G)) : FnOk P w K mg base CX0 10 f fd ["_law_script"] (spLaw K) := by
  refine F.ok sc_law (fun vs H Q E h => ?_) (fun cdv A outer s H vs Q E hr h => ?_)
  · obtain ⟨a, ns, rfl, _⟩ := h
    rfl
  · obtain ⟨sc, ns, rfl, hS, hlen, k⟩ := h
    have nd := sc_law.nd
    have hu := hr.u20
    have h1 : Room 1 _ := hr.mono (by decide)
    have h3 : Room 4 _ := hr.mono (by decide)
    refine ⟨_, pss_cut (ps_set (i := 1) nd rfl (Or.inl rfl) (pe_lst (pa_cons (pe_op op_add pe_int (pe_fn D h1 (pa_cons (pe_fn CA h1 (pa_cons (pv 0) (pa_cons pe_int pa_nil))) (pa_cons pe_int (pa_cons pe_int pa_nil)))))
        (pa_cons (pe_op op_add pe_int (pe_fn D h1 (pa_cons (pe_fn CA h1 (pa_cons (pv 0) (pa_cons pe_int pa_nil))) (pa_cons pe_int (pa_cons pe_int pa_nil))))) pa_nil))))
      (pss_cut (ps_if (pt_cmpR op_eq (pe_fn D h1 (pa_cons (pe_fn CA h1 (pa_cons (pv 0) (pa_cons pe_int pa_nil))) (pa_cons pe_int (pa_cons pe_int pa_nil)))) pe_int (nomark _))
        (pss_one (ps_set (i := 1) nd rfl (Or.inl rfl) (pe_lst (pa_cons (pe_op op_add pe_int (pe_fn D h1 (pa_cons (pe_fn CA h1 (pa_cons (pv 0) (pa_cons pe_int pa_nil))) (pa_cons pe_int (pa_cons pe_int pa_nil)))))
          (pa_cons (pe_op op_add pe_int (pe_fn D h1 (pa_cons (pe_fn CA h1 (pa_cons (pv 0) (pa_cons pe_int pa_nil))) (pa_cons pe_int (pa_cons pe_int pa_nil))))) pa_nil))))) pss_nil)
      (pss_cut (ps_if (pt_cmpR op_eq (pe_fn D h1 (pa_cons (pe_fn CA h1 (pa_cons (pv 0) (pa_cons pe_int pa_nil))) (pa_cons pe_int (pa_cons pe_int pa_nil)))) pe_int (nomark _))
        (pss_one (ps_set (i := 1) nd rfl (Or.inl rfl) (pe_rev (pv 1) pe_int))) pss_nil)
      (pss_cons (ps_set (i := 2) nd rfl (Or.inl rfl) (pe_mk MH h3 (pa_cons (pv 1) (pa_cons pe_bl pa_nil))))
      (pss_cons (ps_set (i := 3) nd rfl (Or.inl rfl) (pe_fn CO h1 (pa_cons (pe_ix ix_list (pv 1) pe_int (fun _ _ => rfl)) (pa_cons (pe_ix ix_list (pv 1) pe_int (fun _ _ => rfl)) pa_nil))))
      (pss_cons (ps_if (pt_cmpR (op_neD hu) (pe_fn ME hr (pa_cons (pv 2) (pa_cons (pe_me0 EM (pv 2) h1) pa_nil)))
          (pe_rngL rfl (by rfl) B.list (by rfl) B.range (pa_cons pe_int (pa_cons (pe_op op_add (pe_callB (call_maxL rfl) (by rfl) hmx bt_max (pa_cons (pv 1) pa_nil)) pe_int) (pa_cons (pv 3) pa_nil)))) (nomark _)) (pss_one (ps_ret pe_bl)) pss_nil)
      (pss_cons (ps_set (i := 4) nd rfl (Or.inl rfl) (pe_fn D h1 (pa_cons (pe_fn CA h1 (pa_cons (pv 0) (pa_cons pe_int pa_nil))) (pa_cons pe_int (pa_cons (pe_op op_add (pe_callB (call_maxL rfl) (by rfl) hmx bt_max (pa_cons (pv 1) pa_nil)) pe_int) pa_nil)))))
      (pss_cons (ps_set (i := 5) nd rfl (Or.inl rfl) (pe_fn FW hr (pa_cons (pv 2) (pa_cons (pe_me0 EM (pv 2) h1) (pa_cons (pe_mk MS h3 (pa_cons (pv 4) pa_nil)) pa_nil)))))
      (pss_cons (ps_if (PW.pt (pw_and (pt_cmpR op_eq (pe_op op_mod (pv 4) (pv 3)) pe_int (nomark _)) (pw_and1 (pt_cmpR op_le (pv 4) (pe_callB (call_maxL rfl) (by rfl) hmx bt_max (pa_cons (pv 1) pa_nil)) (nomark _)))))
        (pss_one (ps_ret (pe_callB call_isinst (by rfl) B.isinstance bt_isinstance (pa_cons (pv 5) (pa_cons (pe_glob (v := .ref CP) (by rfl) gP rfl) pa_nil))))) pss_nil)
      (pss_one (ps_ret (pe_callB call_isinst (by rfl) B.isinstance bt_isinstance (pa_cons (pv 5) (pa_cons (pe_glob (v := .ref CB) (by rfl) gB rfl) pa_nil))))))))))))), ?_⟩
    -- the sizes
    refine ⟨fun σ H' => ∃ (l : Addr) (a b : Nat), σ = [some (.ref sc), some (.ref l), none, none, none, none] ∧ Same H H' ∧ H' l = some (.lst ([(a : Int), (b : Int)].map V.int)) ∧ 1 ≤ a ∧ a ≤ 20 ∧ 1 ≤ b ∧ b ≤ 20, ?_, ?_⟩
    · refine ⟨_, rfl, sc, ns, 0, rfl, hS, by decide, fun c0 => ⟨c0, 0, 20, rfl, by decide, by decide, fun r1 G1 p1 q1 s1 => ⟨_, _, rfl, rfl, ?_⟩⟩⟩
      refine ⟨_, rfl, sc, ns, 0, rfl, s1.seq hS, by decide, fun c1 => ⟨c1, 1, 20, rfl, by decide, by decide, fun r2 G2 p2 q2 s2 => ⟨_, _, rfl, rfl, ?_⟩⟩⟩
      refine ⟨(by show 2 ≤ sizeLine; decide), fun l nl => ⟨l, (1 + r1).toNat, (1 + r2).toNat, rfl, (s1.trans s2).lay nl, ?_, by omega, by omega, by omega, by omega⟩⟩
      have e1 : (((1 + r1).toNat : Nat) : Int) = 1 + r1 := by omega
      have e2 : (((1 + r2).toNat : Nat) : Int) = 1 + r2 := by omega
      rw [upd_same, e1, e2]
      rfl
    rintro _ H1 ⟨l1, a1, b1, rfl, t1, el1, x1, x2, x3, x4⟩
    refine ⟨fun σ H' => ∃ (l : Addr) (a b : Nat), σ = [some (.ref sc), some (.ref l), none, none, none, none] ∧ Same H H' ∧ H' l = some (.lst ([(a : Int), (b : Int)].map V.int)) ∧ 1 ≤ a ∧ a ≤ 20 ∧ 1 ≤ b ∧ b ≤ 60, ?_, ?_⟩
    · refine ⟨_, rfl, sc, ns, 1, rfl, t1.seq hS, by decide, fun c0 => ⟨c0, 2, 4, rfl, by decide, by decide, fun r0 G0 p0 q0 s0 => ⟨rfl, _, rfl, ?_⟩⟩⟩
      have t0 := t1.trans s0
      refine ite2 (fun _ => ?_) (fun _ => ⟨l1, a1, b1, rfl, t0, s0 _ _ el1, x1, x2, x3, by omega⟩)
      refine ⟨_, rfl, sc, ns, 0, rfl, t0.seq hS, by decide, fun c0 => ⟨c0, 3, 6, rfl, by decide, by decide, fun r1 G1 p1 q1 s1 => ⟨_, _, rfl, rfl, ?_⟩⟩⟩
      refine ⟨_, rfl, sc, ns, 0, rfl, (t0.trans s1).seq hS, by decide, fun c1 => ⟨c1, 4, 60, rfl, by decide, by decide, fun r2 G2 p2 q2 s2 => ⟨_, _, rfl, rfl, ?_⟩⟩⟩
      refine ⟨(by show 2 ≤ sizeLine; decide), fun l nl => ⟨l, (1 + r1).toNat, (1 + r2).toNat, rfl, ((t0.trans s1).trans s2).lay nl, ?_, by omega, by omega, by omega, by omega⟩⟩
      have e1 : (((1 + r1).toNat : Nat) : Int) = 1 + r1 := by omega
      have e2 : (((1 + r2).toNat : Nat) : Int) = 1 + r2 := by omega
      rw [upd_same, e1, e2]
      rfl
    rintro _ H2 ⟨l2, a2, b2, rfl, t2, el2, y1, y2, y3, y4⟩
    refine ⟨fun σ H' => ∃ (l : Addr) (a b : Nat), σ = [some (.ref sc), some (.ref l), none, none, none, none] ∧ Same H H' ∧ H' l = some (.lst ([(a : Int), (b : Int)].map V.int)) ∧ 1 ≤ a ∧ 1 ≤ b ∧ ((a ≤ 20 ∧ b ≤ 60) ∨ (a ≤ 60 ∧ b ≤ 20)), ?_, ?_⟩
    · refine ⟨_, rfl, sc, ns, 1, rfl, t2.seq hS, by decide, fun c0 => ⟨c0, 3, 2, rfl, by decide, by decide, fun r0 G0 p0 q0 s0 => ⟨rfl, _, rfl, ?_⟩⟩⟩
      have t0 := t2.trans s0
      refine ite2 (fun _ => ?_) (fun _ => ⟨l2, a2, b2, rfl, t0, s0 _ _ el2, y1, y3, .inl ⟨y2, y4⟩⟩)
      exact ⟨_, rfl, l2, _, rfl, SqL.of (s0 _ _ el2), fun l nl => ⟨l, b2, a2, rfl, t0.lay nl, upd_same, y3, y1, .inr ⟨y4, y2⟩⟩⟩
    rintro _ H3 ⟨l, a, b, rfl, t3, el, ha, hb, hab⟩
    have hz := hz2 ha hb hab
    have ha6 : a ≤ 60 := by omega
    have hb6 : b ≤ 60 := by omega
    have gpos := J.cmn_pos a b
    have isMax : ∀ M : Int, M ∈ [(a : Int), (b : Int)] → (∀ x ∈ [(a : Int), (b : Int)], x ≤ M) → M = ((max a b : Nat) : Int) := fun M h1 h2 => by
      have m1 := h2 a (by simp)
      have m2 := h2 b (by simp)
      simp at h1
      rcases h1 with rfl | rfl <;> omega
    -- the house
    refine ⟨_, rfl, fun p dx np ndx nex => ⟨p, dx, l, [(a : Int), (b : Int)], true, rfl, upd_same, ?_, hz, fun H4 kp hh4 => ⟨rfl, ?_⟩⟩⟩
    · rw [upd_ne (ne_of_none el np), upd_ne (ne_of_none el ndx)]
      exact el
    have s4 : Same H3 H4 := fun c o e => kp c o (by rw [upd_ne (ne_of_none e np), upd_ne (ne_of_none e ndx)]; exact e) (ne_of_none e np)
    have el4 := s4 _ _ el
    have t4 := t3.trans s4
    obtain ⟨dp, tp, hp4, ht4⟩ := id hh4
    -- the step
    refine ⟨_, rfl, l, _, _, _, rfl, rfl, SqL.of el4, rfl, _, rfl, l, _, _, _, rfl, rfl, SqL.of el4, rfl, a, b, rfl, ha, hb, ha6, hb6, ?_⟩
    -- measured
    refine ⟨_, rfl, _, rfl, p, dp, _, rfl, hp4, hF_no _ _ (by decide +kernel) (by decide +kernel), p, [(a : Int), (b : Int)], true, rfl, hh4, hz, fun t H5 s5 e5 => ?_⟩
    refine ⟨p, t, [(a : Int), (b : Int)], true, [0, 0], rfl, hh4.mono s5, hz, e5, J.st2, fun lm H6 ys s6 e6 n6 o6 m6 => ?_⟩
    have el6 := s6 _ _ (s5 _ _ el4)
    refine ⟨_, rfl, l, [(a : Int), (b : Int)], rfl, SqL.of el6, by simp, fun M hM hMx => ⟨_, _, rfl, rfl, _, rfl, ?_⟩⟩
    have eM := isMax M hM hMx
    subst eM
    have hMs : max a b ≤ 60 := by omega
    refine ⟨0, _, _, max a b / J.cmn a b + 1, rfl, by omega, ?_, ?_, ?_, ?_, fun lr nlr => ?_⟩
    · exact rng_small hMs gpos (by have := Nat.le_of_dvd (by omega) (J.cmn_dvd a b).1; omega)
    · exact rng_size gpos
    · have := Nat.div_le_self (max a b) (J.cmn a b)
      omega
    · exact PyProof.noPylong_small (by have := Nat.le_of_dvd (by omega) (J.cmn_dvd a b).1; omega)
    have s7 : Same H6 (upd H6 lr (.lst ((List.range (max a b / J.cmn a b + 1)).map fun (m : Nat) => V.int (0 + m * ((J.cmn a b : Nat) : Int))))) := Same.new nlr
    have eml : (List.range (max a b / J.cmn a b + 1)).map (fun (m : Nat) => V.int (0 + m * ((J.cmn a b : Nat) : Int))) = (mult (J.cmn a b) (max a b)).map V.int := by unfold mult; rw [List.map_map]; rfl
    have ey : ys = mult (J.cmn a b) (max a b) := eq_sorted n6 (mult_nd gpos _) o6 (mult_sorted _ _) fun v => by
      rw [m6, mult_mem gpos]
      exact J.two_jugs ha hb hab v
    refine ⟨_, rcL (s7 _ _ e6) (by rw [upd_same, eml]), _, rfl, ?_⟩
    rw [decide_eq_true ey]
    refine iteF ?_
    have s47 : Same H4 _ := (s5.trans s6).trans s7
    generalize upd H6 lr (.lst ((List.range (max a b / J.cmn a b + 1)).map fun (m : Nat) => V.int (0 + m * ((J.cmn a b : Nat) : Int)))) = H7 at s47 ⊢
    have t7 := t4.trans s47
    have el7 := s47 _ _ el4
    -- many
    refine ⟨_, rfl, sc, ns, 2, rfl, t7.seq hS, by decide, fun c => ?_⟩
    refine ⟨_, rfl, l, [(a : Int), (b : Int)], rfl, SqL.of el7, by simp, fun M hM hMx => ⟨_, _, rfl, rfl, ?_⟩⟩
    have eM := isMax M hM hMx
    subst eM
    refine ⟨c, 4, _, rfl, by decide, by omega, fun mm H8 p8 q8 s8 => ?_⟩
    have s48 := s47.trans s8
    -- fewest
    refine ⟨_, rfl, _, rfl, p, dp, _, rfl, s48 _ _ hp4, hF_no _ _ (by decide +kernel) (by decide +kernel), p, [(a : Int), (b : Int)], true, rfl, hh4.mono s48, hz, fun t2 H9 s9 e9 => ?_⟩
    refine ⟨_, rfl, fun pg dg npg ndg neg => ⟨pg, dg, mm, rfl, upd_same, p8, by omega, fun H10 kp10 hg10 => ⟨rfl, ?_⟩⟩⟩
    have s10 : Same H9 H10 := fun c o e => kp10 c o (by rw [upd_ne (ne_of_none e npg), upd_ne (ne_of_none e ndg)]; exact e) (ne_of_none e npg)
    have s410 := (s48.trans s9).trans s10
    refine ⟨p, t2, pg, [(a : Int), (b : Int)], true, [0, 0], .som mm, rfl, hh4.mono s410, hz, s10 _ _ e9, J.st2, hg10, trivial, fun i x r H11 hx hm no s11 nr pa => ?_, fun no r H11 s11 nr ba => ?_⟩
    · have hmm : mm ∈ x.1 := of_decide_eq_true hm
      obtain ⟨m0, m1, md⟩ := (J.two_jugs ha hb hab mm).mp ⟨x, List.mem_of_getElem? hx, hmm⟩
      obtain ⟨dr, ra, rb, xs, ys, hr11, _⟩ := pa
      refine ⟨_, rfl, _, rfl, _, _, rfl, rfl, (by omega), rfl, _, rfl, ?_⟩
      rw [decide_eq_true (show V.int (mm % ((J.cmn a b : Nat) : Int)) = V.int 0 by rw [Int.emod_eq_zero_of_dvd md])]
      refine iteT ⟨_, rfl, _, rfl, l, [(a : Int), (b : Int)], rfl, SqL.of (s11 _ _ (s410 _ _ el4)), by simp, fun M hM hMx => ⟨_, _, rfl, rfl, _, rfl, ?_⟩⟩
      have eM := isMax M hM hMx
      subst eM
      rw [decide_eq_true m1]
      exact iteT ⟨_, rfl, _, _, _, _, _, rfl, .ref _, .ins hr11 kP.cl tP.ha tP.hn tP.htk tP.hm, kit_self CP, k H11⟩
    · obtain ⟨dr, ra, xs, hr11, _⟩ := ba
      refine ⟨_, rfl, _, rfl, _, _, rfl, rfl, (by omega), rfl, _, rfl, ?_⟩
      by_cases c1 : ((J.cmn a b : Nat) : Int) ∣ mm
      · rw [decide_eq_true (show V.int (mm % ((J.cmn a b : Nat) : Int)) = V.int 0 by rw [Int.emod_eq_zero_of_dvd c1])]
        refine iteT ⟨_, rfl, _, rfl, l, [(a : Int), (b : Int)], rfl, SqL.of (s11 _ _ (s410 _ _ el4)), by simp, fun M hM hMx => ⟨_, _, rfl, rfl, _, rfl, ?_⟩⟩
        have eM := isMax M hM hMx
        subst eM
        rw [decide_eq_false (fun m1 => by
          obtain ⟨x, hx, hv⟩ := (J.two_jugs ha hb hab mm).mpr ⟨p8, m1, c1⟩
          have := no x hx
          rw [show Go.met x.1 (.som mm) = decide (mm ∈ x.1) from rfl, decide_eq_true hv] at this
          cases this)]
        exact iteF ⟨_, rfl, _, _, _, _, _, rfl, .ref _, .ins hr11 kB.cl tB.ha tB.hn tB.htk tB.hm, kit_self CB, k H11⟩
      · rw [decide_eq_false (fun e => by injection e with e; exact c1 (Int.dvd_of_emod_eq_zero e))]
        refine iteF ?_
        exact iteF ⟨_, rfl, _, _, _, _, _, rfl, .ref _, .ins hr11 kB.cl tB.ha tB.hn tB.htk tB.hm, kit_self CB, k H11⟩
end
end Jug

namespace Jug
open PySem L2
theorem anyC {P : Program} {w : World} {K : PySem.W.Frag} {mg : Str → Option Value} {base : Heap} {k : Nat} {Z : Cz} {m : Str} {ps : List Str} {sp : Sp} (h1 : MeB P w K mg base k Z.P m ps sp) (h2 : MeB P w K mg base k Z.F m ps sp) (h3 : MeB P w K mg base k Z.E m ps sp) :
    ∀ C, anyMv Z C → MeB P w K mg base k C m ps sp := by
  rintro C (rfl | rfl | rfl)
  · exact h1
  · exact h2
  · exact h3
theorem anyD {P : Program} {w : World} {K : PySem.W.Frag} {mg : Str → Option Value} {base : Heap} {k : Nat} {Z : Gz} {m : Str} {ps : List Str} {sp : Sp} (h1 : MeB P w K mg base k Z.H m ps sp) (h2 : MeB P w K mg base k Z.S m ps sp) (h3 : MeB P w K mg base k Z.U m ps sp) (h4 : MeB P w K mg base k Z.W m ps sp) :
    ∀ C, anyGo Z C → MeB P w K mg base k C m ps sp := by
  rintro C (rfl | rfl | rfl | rfl)
  · exact h1
  · exact h2
  · exact h3
  · exact h4
theorem len1 {us : List Value} (h : us.length = 1) : ∃ a0, us = [a0] := match us, h with | [a0], _ => ⟨a0, rfl⟩
theorem len2 {us : List Value} (h : us.length = 2) : ∃ a0 a1, us = [a0, a1] := match us, h with | [a0, a1], _ => ⟨a0, a1, rfl⟩
theorem len3 {us : List Value} (h : us.length = 3) : ∃ a0 a1 a2, us = [a0, a1, a2] := match us, h with | [a0, a1, a2], _ => ⟨a0, a1, a2, rfl⟩
theorem all_mk {l : PySem.W.OpenLaw} {w : World} {K : PySem.W.Frag} {h : Heap} {mg : Str → Option Value} {fa : Addr} (X : K.In h) (G : h.Ns mainGlobals mg) (hfa : mg "law" = some (.ref fa))
    {t_MOST_JUGS : Tok}
    {t_MOST_SIZE : Tok}
    {t_MOST_STATES : Tok}
    {t_MOST_AMOUNT : Tok}
    {C_Pour : Addr}
    {C_Fill : Addr}
    {C_Empty : Addr}
    {C_House : Addr}
    {C_Holds : Addr}
    {C_Some : Addr}
    {C_Sum : Addr}
    {C_Whole : Addr}
    {C_Goal : Addr}
    {C_Poured : Addr}
    {C_Barred : Addr}
    {f_is_number : Addr} {oc_is_number kV_is_number dc_is_number pm_is_number cd_is_number ct_is_number : Value} {od_is_number an_is_number : Option Addr} {sl_is_number : Array (Option Value)}
    {f_is_jug : Addr} {oc_is_jug kV_is_jug dc_is_jug pm_is_jug cd_is_jug ct_is_jug : Value} {od_is_jug an_is_jug : Option Addr} {sl_is_jug : Array (Option Value)}
    {f_sizes : Addr} {oc_sizes kV_sizes dc_sizes pm_sizes cd_sizes ct_sizes : Value} {od_sizes an_sizes : Option Addr} {sl_sizes : Array (Option Value)}
    {f_held_in : Addr} {oc_held_in kV_held_in dc_held_in pm_held_in cd_held_in ct_held_in : Value} {od_held_in an_held_in : Option Addr} {sl_held_in : Array (Option Value)}
    {f_with_amount : Addr} {oc_with_amount kV_with_amount dc_with_amount pm_with_amount cd_with_amount ct_with_amount : Value} {od_with_amount an_with_amount : Option Addr} {sl_with_amount : Array (Option Value)}
    {f_check_jug : Addr} {oc_check_jug kV_check_jug dc_check_jug pm_check_jug cd_check_jug ct_check_jug : Value} {od_check_jug an_check_jug : Option Addr} {sl_check_jug : Array (Option Value)}
    {f_check_house_has : Addr} {oc_check_house_has kV_check_house_has dc_check_house_has pm_check_house_has cd_check_house_has ct_check_house_has : Value} {od_check_house_has an_check_house_has : Option Addr} {sl_check_house_has : Array (Option Value)}
    {f_check_house_can_tap : Addr} {oc_check_house_can_tap kV_check_house_can_tap dc_check_house_can_tap pm_check_house_can_tap cd_check_house_can_tap ct_check_house_can_tap : Value} {od_check_house_can_tap an_check_house_can_tap : Option Addr} {sl_check_house_can_tap : Array (Option Value)}
    {f_Pi : Addr} {oc_Pi kV_Pi dc_Pi pm_Pi cd_Pi ct_Pi : Value} {od_Pi an_Pi : Option Addr} {sl_Pi : Array (Option Value)}
    {f_Fi : Addr} {oc_Fi kV_Fi dc_Fi pm_Fi cd_Fi ct_Fi : Value} {od_Fi an_Fi : Option Addr} {sl_Fi : Array (Option Value)}
    {f_Ei : Addr} {oc_Ei kV_Ei dc_Ei pm_Ei cd_Ei ct_Ei : Value} {od_Ei an_Ei : Option Addr} {sl_Ei : Array (Option Value)}
    {f_Ph : Addr} {oc_Ph kV_Ph dc_Ph pm_Ph cd_Ph ct_Ph : Value} {od_Ph an_Ph : Option Addr} {sl_Ph : Array (Option Value)}
    {f_Fh : Addr} {oc_Fh kV_Fh dc_Fh pm_Fh cd_Fh ct_Fh : Value} {od_Fh an_Fh : Option Addr} {sl_Fh : Array (Option Value)}
    {f_Eh : Addr} {oc_Eh kV_Eh dc_Eh pm_Eh cd_Eh ct_Eh : Value} {od_Eh an_Eh : Option Addr} {sl_Eh : Array (Option Value)}
    {f_done : Addr} {oc_done kV_done dc_done pm_done cd_done ct_done : Value} {od_done an_done : Option Addr} {sl_done : Array (Option Value)}
    {f_count_states : Addr} {oc_count_states kV_count_states dc_count_states pm_count_states cd_count_states ct_count_states : Value} {od_count_states an_count_states : Option Addr} {sl_count_states : Array (Option Value)}
    {f_sizes_in : Addr} {oc_sizes_in kV_sizes_in dc_sizes_in pm_sizes_in cd_sizes_in ct_sizes_in : Value} {od_sizes_in an_sizes_in : Option Addr} {sl_sizes_in : Array (Option Value)}
    {f_Hi : Addr} {oc_Hi kV_Hi dc_Hi pm_Hi cd_Hi ct_Hi : Value} {od_Hi an_Hi : Option Addr} {sl_Hi : Array (Option Value)}
    {f_empty : Addr} {oc_empty kV_empty dc_empty pm_empty cd_empty ct_empty : Value} {od_empty an_empty : Option Addr} {sl_empty : Array (Option Value)}
    {f_pours_among : Addr} {oc_pours_among kV_pours_among dc_pours_among pm_pours_among cd_pours_among ct_pours_among : Value} {od_pours_among an_pours_among : Option Addr} {sl_pours_among : Array (Option Value)}
    {f_moves : Addr} {oc_moves kV_moves dc_moves pm_moves cd_moves ct_moves : Value} {od_moves an_moves : Option Addr} {sl_moves : Array (Option Value)}
    {f_ways : Addr} {oc_ways kV_ways dc_ways pm_ways cd_ways ct_ways : Value} {od_ways an_ways : Option Addr} {sl_ways : Array (Option Value)}
    {f_measured : Addr} {oc_measured kV_measured dc_measured pm_measured cd_measured ct_measured : Value} {od_measured an_measured : Option Addr} {sl_measured : Array (Option Value)}
    {f_check_jug_g : Addr} {oc_check_jug_g kV_check_jug_g dc_check_jug_g pm_check_jug_g cd_check_jug_g ct_check_jug_g : Value} {od_check_jug_g an_check_jug_g : Option Addr} {sl_check_jug_g : Array (Option Value)}
    {f_check_house_has_g : Addr} {oc_check_house_has_g kV_check_house_has_g dc_check_house_has_g pm_check_house_has_g cd_check_house_has_g ct_check_house_has_g : Value} {od_check_house_has_g an_check_house_has_g : Option Addr} {sl_check_house_has_g : Array (Option Value)}
    {f_check_amount : Addr} {oc_check_amount kV_check_amount dc_check_amount pm_check_amount cd_check_amount ct_check_amount : Value} {od_check_amount an_check_amount : Option Addr} {sl_check_amount : Array (Option Value)}
    {f_check_state_of : Addr} {oc_check_state_of kV_check_state_of dc_check_state_of pm_check_state_of cd_check_state_of ct_check_state_of : Value} {od_check_state_of an_check_state_of : Option Addr} {sl_check_state_of : Array (Option Value)}
    {f_Si : Addr} {oc_Si kV_Si dc_Si pm_Si cd_Si ct_Si : Value} {od_Si an_Si : Option Addr} {sl_Si : Array (Option Value)}
    {f_Om : Addr} {oc_Om kV_Om dc_Om pm_Om cd_Om ct_Om : Value} {od_Om an_Om : Option Addr} {sl_Om : Array (Option Value)}
    {f_Sm : Addr} {oc_Sm kV_Sm dc_Sm pm_Sm cd_Sm ct_Sm : Value} {od_Sm an_Sm : Option Addr} {sl_Sm : Array (Option Value)}
    {f_Um : Addr} {oc_Um kV_Um dc_Um pm_Um cd_Um ct_Um : Value} {od_Um an_Um : Option Addr} {sl_Um : Array (Option Value)}
    {f_Wm : Addr} {oc_Wm kV_Wm dc_Wm pm_Wm cd_Wm ct_Wm : Value} {od_Wm an_Wm : Option Addr} {sl_Wm : Array (Option Value)}
    {f_come : Addr} {oc_come kV_come dc_come pm_come cd_come ct_come : Value} {od_come an_come : Option Addr} {sl_come : Array (Option Value)}
    {f_check_goal : Addr} {oc_check_goal kV_check_goal dc_check_goal pm_check_goal cd_check_goal ct_check_goal : Value} {od_check_goal an_check_goal : Option Addr} {sl_check_goal : Array (Option Value)}
    {f_nearest : Addr} {oc_nearest kV_nearest dc_nearest pm_nearest cd_nearest ct_nearest : Value} {od_nearest an_nearest : Option Addr} {sl_nearest : Array (Option Value)}
    {f_moves_to : Addr} {oc_moves_to kV_moves_to dc_moves_to pm_moves_to cd_moves_to ct_moves_to : Value} {od_moves_to an_moves_to : Option Addr} {sl_moves_to : Array (Option Value)}
    {f_heights : Addr} {oc_heights kV_heights dc_heights pm_heights cd_heights ct_heights : Value} {od_heights an_heights : Option Addr} {sl_heights : Array (Option Value)}
    {f_Di : Addr} {oc_Di kV_Di dc_Di pm_Di cd_Di ct_Di : Value} {od_Di an_Di : Option Addr} {sl_Di : Array (Option Value)}
    {f_Bi : Addr} {oc_Bi kV_Bi dc_Bi pm_Bi cd_Bi ct_Bi : Value} {od_Bi an_Bi : Option Addr} {sl_Bi : Array (Option Value)}
    {f_fewest : Addr} {oc_fewest kV_fewest dc_fewest pm_fewest cd_fewest ct_fewest : Value} {od_fewest an_fewest : Option Addr} {sl_fewest : Array (Option Value)}
    {f_cell_at : Addr} {oc_cell_at kV_cell_at dc_cell_at pm_cell_at cd_cell_at ct_cell_at : Value} {od_cell_at an_cell_at : Option Addr} {sl_cell_at : Array (Option Value)}
    {f_draw : Addr} {oc_draw kV_draw dc_draw pm_draw cd_draw ct_draw : Value} {od_draw an_draw : Option Addr} {sl_draw : Array (Option Value)}
    {f_common : Addr} {oc_common kV_common dc_common pm_common cd_common ct_common : Value} {od_common an_common : Option Addr} {sl_common : Array (Option Value)}
    {f_law : Addr} {oc_law kV_law dc_law pm_law cd_law ct_law : Value} {od_law an_law : Option Addr} {sl_law : Array (Option Value)}
    (z_isinstance : PySem.W.nsIn K mainGlobals "isinstance" = some none)
    (z_int : PySem.W.nsIn K mainGlobals "int" = some none)
    (z_bool : PySem.W.nsIn K mainGlobals "bool" = some none)
    (z_tuple : PySem.W.nsIn K mainGlobals "tuple" = some none)
    (z_list : PySem.W.nsIn K mainGlobals "list" = some none)
    (z_len : PySem.W.nsIn K mainGlobals "len" = some none)
    (z_zip : PySem.W.nsIn K mainGlobals "zip" = some none)
    (z_range : PySem.W.nsIn K mainGlobals "range" = some none)
    (z_min : PySem.W.nsIn K mainGlobals "min" = some none)
    (z_str : PySem.W.nsIn K mainGlobals "str" = some none)
    (z_sum : PySem.W.nsIn K mainGlobals "sum" = some none)
    (z_max : PySem.W.nsIn K mainGlobals "max" = some none)
    (z_sorted : PySem.W.nsIn K mainGlobals "sorted" = some none)
    (z_reversed : PySem.W.nsIn K mainGlobals "reversed" = some none)
    (z_MOST_JUGS : PySem.W.nsIn K mainGlobals "MOST_JUGS" = some (some (.int 4 t_MOST_JUGS)))
    (z_MOST_SIZE : PySem.W.nsIn K mainGlobals "MOST_SIZE" = some (some (.int 60 t_MOST_SIZE)))
    (z_MOST_STATES : PySem.W.nsIn K mainGlobals "MOST_STATES" = some (some (.int 2000 t_MOST_STATES)))
    (z_MOST_AMOUNT : PySem.W.nsIn K mainGlobals "MOST_AMOUNT" = some (some (.int 240 t_MOST_AMOUNT)))
    (a_Pour : PySem.W.nsIn K mainGlobals "Pour" = some (some (.ref C_Pour)))
    (pg_Pour : PySem.W.plainGet K C_Pour Str.empty = true)
    (hd_Pour : PySem.W.hasDictIn K C_Pour = true)
    (po_Pour : PySem.W.plainOver K C_Pour = true)
    (sa_Pour : PySem.W.findIn K (.ref C_Pour) "__setattr__" = some (some (.builtin "object.__setattr__")))
    (mk_Pour : PySem.W.makesIn K C_Pour = true)
    (kc_Pour : PySem.W.keepIn K (.ref C_Pour) = true)
    (n_Pour_one : PySem.W.findIn K (.ref C_Pour) "one" = some none)
    (n_Pour_other : PySem.W.findIn K (.ref C_Pour) "other" = some none)
    (ha_Pour : PySem.W.findIn K (.ref C_Pour) "__class__" = some (some (.builtin "object.__class__")))
    (hm_Pour : PySem.W.mroIn K C_Pour (.type "object") = some true)
    (a_Fill : PySem.W.nsIn K mainGlobals "Fill" = some (some (.ref C_Fill)))
    (pg_Fill : PySem.W.plainGet K C_Fill Str.empty = true)
    (hd_Fill : PySem.W.hasDictIn K C_Fill = true)
    (po_Fill : PySem.W.plainOver K C_Fill = true)
    (sa_Fill : PySem.W.findIn K (.ref C_Fill) "__setattr__" = some (some (.builtin "object.__setattr__")))
    (mk_Fill : PySem.W.makesIn K C_Fill = true)
    (kc_Fill : PySem.W.keepIn K (.ref C_Fill) = true)
    (n_Fill_jug : PySem.W.findIn K (.ref C_Fill) "jug" = some none)
    (ha_Fill : PySem.W.findIn K (.ref C_Fill) "__class__" = some (some (.builtin "object.__class__")))
    (hm_Fill : PySem.W.mroIn K C_Fill (.type "object") = some true)
    (a_Empty : PySem.W.nsIn K mainGlobals "Empty" = some (some (.ref C_Empty)))
    (pg_Empty : PySem.W.plainGet K C_Empty Str.empty = true)
    (hd_Empty : PySem.W.hasDictIn K C_Empty = true)
    (po_Empty : PySem.W.plainOver K C_Empty = true)
    (sa_Empty : PySem.W.findIn K (.ref C_Empty) "__setattr__" = some (some (.builtin "object.__setattr__")))
    (mk_Empty : PySem.W.makesIn K C_Empty = true)
    (kc_Empty : PySem.W.keepIn K (.ref C_Empty) = true)
    (n_Empty_jug : PySem.W.findIn K (.ref C_Empty) "jug" = some none)
    (ha_Empty : PySem.W.findIn K (.ref C_Empty) "__class__" = some (some (.builtin "object.__class__")))
    (hm_Empty : PySem.W.mroIn K C_Empty (.type "object") = some true)
    (a_House : PySem.W.nsIn K mainGlobals "House" = some (some (.ref C_House)))
    (pg_House : PySem.W.plainGet K C_House Str.empty = true)
    (hd_House : PySem.W.hasDictIn K C_House = true)
    (po_House : PySem.W.plainOver K C_House = true)
    (sa_House : PySem.W.findIn K (.ref C_House) "__setattr__" = some (some (.builtin "object.__setattr__")))
    (mk_House : PySem.W.makesIn K C_House = true)
    (kc_House : PySem.W.keepIn K (.ref C_House) = true)
    (n_House_jug_sizes : PySem.W.findIn K (.ref C_House) "jug_sizes" = some none)
    (n_House_tap : PySem.W.findIn K (.ref C_House) "tap" = some none)
    (a_Holds : PySem.W.nsIn K mainGlobals "Holds" = some (some (.ref C_Holds)))
    (pg_Holds : PySem.W.plainGet K C_Holds Str.empty = true)
    (hd_Holds : PySem.W.hasDictIn K C_Holds = true)
    (po_Holds : PySem.W.plainOver K C_Holds = true)
    (sa_Holds : PySem.W.findIn K (.ref C_Holds) "__setattr__" = some (some (.builtin "object.__setattr__")))
    (mk_Holds : PySem.W.makesIn K C_Holds = true)
    (kc_Holds : PySem.W.keepIn K (.ref C_Holds) = true)
    (n_Holds_jug : PySem.W.findIn K (.ref C_Holds) "jug" = some none)
    (n_Holds_many : PySem.W.findIn K (.ref C_Holds) "many" = some none)
    (ha_Holds : PySem.W.findIn K (.ref C_Holds) "__class__" = some (some (.builtin "object.__class__")))
    (hm_Holds : PySem.W.mroIn K C_Holds (.type "object") = some true)
    (a_Some : PySem.W.nsIn K mainGlobals "Some" = some (some (.ref C_Some)))
    (pg_Some : PySem.W.plainGet K C_Some Str.empty = true)
    (hd_Some : PySem.W.hasDictIn K C_Some = true)
    (po_Some : PySem.W.plainOver K C_Some = true)
    (sa_Some : PySem.W.findIn K (.ref C_Some) "__setattr__" = some (some (.builtin "object.__setattr__")))
    (mk_Some : PySem.W.makesIn K C_Some = true)
    (kc_Some : PySem.W.keepIn K (.ref C_Some) = true)
    (n_Some_many : PySem.W.findIn K (.ref C_Some) "many" = some none)
    (ha_Some : PySem.W.findIn K (.ref C_Some) "__class__" = some (some (.builtin "object.__class__")))
    (hm_Some : PySem.W.mroIn K C_Some (.type "object") = some true)
    (a_Sum : PySem.W.nsIn K mainGlobals "Sum" = some (some (.ref C_Sum)))
    (pg_Sum : PySem.W.plainGet K C_Sum Str.empty = true)
    (hd_Sum : PySem.W.hasDictIn K C_Sum = true)
    (po_Sum : PySem.W.plainOver K C_Sum = true)
    (sa_Sum : PySem.W.findIn K (.ref C_Sum) "__setattr__" = some (some (.builtin "object.__setattr__")))
    (mk_Sum : PySem.W.makesIn K C_Sum = true)
    (kc_Sum : PySem.W.keepIn K (.ref C_Sum) = true)
    (n_Sum_jugs : PySem.W.findIn K (.ref C_Sum) "jugs" = some none)
    (n_Sum_many : PySem.W.findIn K (.ref C_Sum) "many" = some none)
    (ha_Sum : PySem.W.findIn K (.ref C_Sum) "__class__" = some (some (.builtin "object.__class__")))
    (hm_Sum : PySem.W.mroIn K C_Sum (.type "object") = some true)
    (a_Whole : PySem.W.nsIn K mainGlobals "Whole" = some (some (.ref C_Whole)))
    (pg_Whole : PySem.W.plainGet K C_Whole Str.empty = true)
    (hd_Whole : PySem.W.hasDictIn K C_Whole = true)
    (po_Whole : PySem.W.plainOver K C_Whole = true)
    (sa_Whole : PySem.W.findIn K (.ref C_Whole) "__setattr__" = some (some (.builtin "object.__setattr__")))
    (mk_Whole : PySem.W.makesIn K C_Whole = true)
    (kc_Whole : PySem.W.keepIn K (.ref C_Whole) = true)
    (n_Whole_state : PySem.W.findIn K (.ref C_Whole) "state" = some none)
    (ha_Whole : PySem.W.findIn K (.ref C_Whole) "__class__" = some (some (.builtin "object.__class__")))
    (hm_Whole : PySem.W.mroIn K C_Whole (.type "object") = some true)
    (a_Goal : PySem.W.nsIn K mainGlobals "Goal" = some (some (.ref C_Goal)))
    (pg_Goal : PySem.W.plainGet K C_Goal Str.empty = true)
    (hd_Goal : PySem.W.hasDictIn K C_Goal = true)
    (po_Goal : PySem.W.plainOver K C_Goal = true)
    (sa_Goal : PySem.W.findIn K (.ref C_Goal) "__setattr__" = some (some (.builtin "object.__setattr__")))
    (a_Poured : PySem.W.nsIn K mainGlobals "Poured" = some (some (.ref C_Poured)))
    (pg_Poured : PySem.W.plainGet K C_Poured Str.empty = true)
    (hd_Poured : PySem.W.hasDictIn K C_Poured = true)
    (po_Poured : PySem.W.plainOver K C_Poured = true)
    (sa_Poured : PySem.W.findIn K (.ref C_Poured) "__setattr__" = some (some (.builtin "object.__setattr__")))
    (mk_Poured : PySem.W.makesIn K C_Poured = true)
    (kc_Poured : PySem.W.keepIn K (.ref C_Poured) = true)
    (n_Poured_pours : PySem.W.findIn K (.ref C_Poured) "pours" = some none)
    (n_Poured_heights : PySem.W.findIn K (.ref C_Poured) "heights" = some none)
    (ha_Poured : PySem.W.findIn K (.ref C_Poured) "__class__" = some (some (.builtin "object.__class__")))
    (hm_Poured : PySem.W.mroIn K C_Poured (.type "object") = some true)
    (a_Barred : PySem.W.nsIn K mainGlobals "Barred" = some (some (.ref C_Barred)))
    (pg_Barred : PySem.W.plainGet K C_Barred Str.empty = true)
    (hd_Barred : PySem.W.hasDictIn K C_Barred = true)
    (po_Barred : PySem.W.plainOver K C_Barred = true)
    (sa_Barred : PySem.W.findIn K (.ref C_Barred) "__setattr__" = some (some (.builtin "object.__setattr__")))
    (mk_Barred : PySem.W.makesIn K C_Barred = true)
    (kc_Barred : PySem.W.keepIn K (.ref C_Barred) = true)
    (n_Barred_among : PySem.W.findIn K (.ref C_Barred) "among" = some none)
    (ha_Barred : PySem.W.findIn K (.ref C_Barred) "__class__" = some (some (.builtin "object.__class__")))
    (hm_Barred : PySem.W.mroIn K C_Barred (.type "object") = some true)
    (hn : PySem.W.specialIn K (.builtin "object.__class__") "__get__" = some (some (.builtin "getset_descriptor.__get__")))
    (htk : PySem.W.takesIn K (.builtin "object.__class__") = some true)
    (k_Fill_Pour : PySem.W.kitOne K (.ref C_Fill) (.ref C_Pour) = some false)
    (k_Empty_Pour : PySem.W.kitOne K (.ref C_Empty) (.ref C_Pour) = some false)
    (k_Empty_Fill : PySem.W.kitOne K (.ref C_Empty) (.ref C_Fill) = some false)
    (k_Holds_Some : PySem.W.kitOne K (.ref C_Holds) (.ref C_Some) = some false)
    (k_Holds_Sum : PySem.W.kitOne K (.ref C_Holds) (.ref C_Sum) = some false)
    (k_Holds_Whole : PySem.W.kitOne K (.ref C_Holds) (.ref C_Whole) = some false)
    (k_Some_Holds : PySem.W.kitOne K (.ref C_Some) (.ref C_Holds) = some false)
    (k_Some_Sum : PySem.W.kitOne K (.ref C_Some) (.ref C_Sum) = some false)
    (k_Some_Whole : PySem.W.kitOne K (.ref C_Some) (.ref C_Whole) = some false)
    (k_Sum_Holds : PySem.W.kitOne K (.ref C_Sum) (.ref C_Holds) = some false)
    (k_Sum_Some : PySem.W.kitOne K (.ref C_Sum) (.ref C_Some) = some false)
    (k_Sum_Whole : PySem.W.kitOne K (.ref C_Sum) (.ref C_Whole) = some false)
    (k_Whole_Holds : PySem.W.kitOne K (.ref C_Whole) (.ref C_Holds) = some false)
    (k_Whole_Some : PySem.W.kitOne K (.ref C_Whole) (.ref C_Some) = some false)
    (k_Whole_Sum : PySem.W.kitOne K (.ref C_Whole) (.ref C_Sum) = some false)
    (k_Holds_Goal : PySem.W.kitOne K (.ref C_Holds) (.ref C_Goal) = some true)
    (k_Some_Goal : PySem.W.kitOne K (.ref C_Some) (.ref C_Goal) = some true)
    (k_Sum_Goal : PySem.W.kitOne K (.ref C_Sum) (.ref C_Goal) = some true)
    (k_Whole_Goal : PySem.W.kitOne K (.ref C_Whole) (.ref C_Goal) = some true)
    (a_is_number : PySem.W.nsIn K mainGlobals "is_number" = some (some (.ref f_is_number)))
    (l_is_number : K.lookup f_is_number = some ⟨oc_is_number, od_is_number, .func (PySem.W.fnOf "is_number" "is_number" (defArgs s_is_number) (defBody s_is_number) (defScope s_is_number) .none kV_is_number dc_is_number pm_is_number an_is_number cd_is_number ct_is_number), sl_is_number⟩)
    (c_is_number : PySem.W.codeIn K cd_is_number "is_number" = true)
    (kp_is_number : PySem.W.keepIn K (.ref f_is_number) = true)
    (a_is_jug : PySem.W.nsIn K mainGlobals "is_jug" = some (some (.ref f_is_jug)))
    (l_is_jug : K.lookup f_is_jug = some ⟨oc_is_jug, od_is_jug, .func (PySem.W.fnOf "is_jug" "is_jug" (defArgs s_is_jug) (defBody s_is_jug) (defScope s_is_jug) .none kV_is_jug dc_is_jug pm_is_jug an_is_jug cd_is_jug ct_is_jug), sl_is_jug⟩)
    (c_is_jug : PySem.W.codeIn K cd_is_jug "is_jug" = true)
    (kp_is_jug : PySem.W.keepIn K (.ref f_is_jug) = true)
    (a_sizes_House : PySem.W.findIn K (.ref C_House) "sizes" = some (some (.ref f_sizes)))
    (i_sizes : PySem.W.isFn K (.ref f_sizes) = true)
    (l_sizes : K.lookup f_sizes = some ⟨oc_sizes, od_sizes, .func (PySem.W.fnOf "sizes" "House.sizes" (defArgs s_House_sizes) (defBody s_House_sizes) (defScope s_House_sizes) .none kV_sizes dc_sizes pm_sizes an_sizes cd_sizes ct_sizes), sl_sizes⟩)
    (c_sizes : PySem.W.codeIn K cd_sizes "House.sizes" = true)
    (kp_sizes : PySem.W.keepIn K (.ref f_sizes) = true)
    (a_held_in : PySem.W.nsIn K mainGlobals "held_in" = some (some (.ref f_held_in)))
    (l_held_in : K.lookup f_held_in = some ⟨oc_held_in, od_held_in, .func (PySem.W.fnOf "held_in" "held_in" (defArgs s_held_in) (defBody s_held_in) (defScope s_held_in) .none kV_held_in dc_held_in pm_held_in an_held_in cd_held_in ct_held_in), sl_held_in⟩)
    (c_held_in : PySem.W.codeIn K cd_held_in "held_in" = true)
    (kp_held_in : PySem.W.keepIn K (.ref f_held_in) = true)
    (a_with_amount : PySem.W.nsIn K mainGlobals "with_amount" = some (some (.ref f_with_amount)))
    (l_with_amount : K.lookup f_with_amount = some ⟨oc_with_amount, od_with_amount, .func (PySem.W.fnOf "with_amount" "with_amount" (defArgs s_with_amount) (defBody s_with_amount) (defScope s_with_amount) .none kV_with_amount dc_with_amount pm_with_amount an_with_amount cd_with_amount ct_with_amount), sl_with_amount⟩)
    (c_with_amount : PySem.W.codeIn K cd_with_amount "with_amount" = true)
    (kp_with_amount : PySem.W.keepIn K (.ref f_with_amount) = true)
    (a_check_jug : PySem.W.nsIn K mainGlobals "check_jug_moves" = some (some (.ref f_check_jug)))
    (l_check_jug : K.lookup f_check_jug = some ⟨oc_check_jug, od_check_jug, .func (PySem.W.fnOf "check_jug" "check_jug" (defArgs s_check_jug') (defBody s_check_jug') (defScope s_check_jug') .none kV_check_jug dc_check_jug pm_check_jug an_check_jug cd_check_jug ct_check_jug), sl_check_jug⟩)
    (c_check_jug : PySem.W.codeIn K cd_check_jug "check_jug" = true)
    (kp_check_jug : PySem.W.keepIn K (.ref f_check_jug) = true)
    (a_check_house_has : PySem.W.nsIn K mainGlobals "check_house_has_moves" = some (some (.ref f_check_house_has)))
    (l_check_house_has : K.lookup f_check_house_has = some ⟨oc_check_house_has, od_check_house_has, .func (PySem.W.fnOf "check_house_has" "check_house_has" (defArgs s_check_house_has') (defBody s_check_house_has') (defScope s_check_house_has') .none kV_check_house_has dc_check_house_has pm_check_house_has an_check_house_has cd_check_house_has ct_check_house_has), sl_check_house_has⟩)
    (c_check_house_has : PySem.W.codeIn K cd_check_house_has "check_house_has" = true)
    (kp_check_house_has : PySem.W.keepIn K (.ref f_check_house_has) = true)
    (a_check_house_can_tap : PySem.W.nsIn K mainGlobals "check_house_can_tap" = some (some (.ref f_check_house_can_tap)))
    (l_check_house_can_tap : K.lookup f_check_house_can_tap = some ⟨oc_check_house_can_tap, od_check_house_can_tap, .func (PySem.W.fnOf "check_house_can_tap" "check_house_can_tap" (defArgs s_check_house_can_tap) (defBody s_check_house_can_tap) (defScope s_check_house_can_tap) .none kV_check_house_can_tap dc_check_house_can_tap pm_check_house_can_tap an_check_house_can_tap cd_check_house_can_tap ct_check_house_can_tap), sl_check_house_can_tap⟩)
    (c_check_house_can_tap : PySem.W.codeIn K cd_check_house_can_tap "check_house_can_tap" = true)
    (kp_check_house_can_tap : PySem.W.keepIn K (.ref f_check_house_can_tap) = true)
    (a_Pi_Pour : PySem.W.findIn K (.ref C_Pour) "__init__" = some (some (.ref f_Pi)))
    (i_Pi : PySem.W.isFn K (.ref f_Pi) = true)
    (l_Pi : K.lookup f_Pi = some ⟨oc_Pi, od_Pi, .func (PySem.W.fnOf "__init__" "Pour.__init__" (defArgs s_Pour_init) (defBody s_Pour_init) (defScope s_Pour_init) .none kV_Pi dc_Pi pm_Pi an_Pi cd_Pi ct_Pi), sl_Pi⟩)
    (c_Pi : PySem.W.codeIn K cd_Pi "Pour.__init__" = true)
    (kp_Pi : PySem.W.keepIn K (.ref f_Pi) = true)
    (a_Fi_Fill : PySem.W.findIn K (.ref C_Fill) "__init__" = some (some (.ref f_Fi)))
    (i_Fi : PySem.W.isFn K (.ref f_Fi) = true)
    (l_Fi : K.lookup f_Fi = some ⟨oc_Fi, od_Fi, .func (PySem.W.fnOf "__init__" "Fill.__init__" (defArgs s_Fill_init) (defBody s_Fill_init) (defScope s_Fill_init) .none kV_Fi dc_Fi pm_Fi an_Fi cd_Fi ct_Fi), sl_Fi⟩)
    (c_Fi : PySem.W.codeIn K cd_Fi "Fill.__init__" = true)
    (kp_Fi : PySem.W.keepIn K (.ref f_Fi) = true)
    (a_Ei_Empty : PySem.W.findIn K (.ref C_Empty) "__init__" = some (some (.ref f_Ei)))
    (i_Ei : PySem.W.isFn K (.ref f_Ei) = true)
    (l_Ei : K.lookup f_Ei = some ⟨oc_Ei, od_Ei, .func (PySem.W.fnOf "__init__" "Empty.__init__" (defArgs s_Empty_init) (defBody s_Empty_init) (defScope s_Empty_init) .none kV_Ei dc_Ei pm_Ei an_Ei cd_Ei ct_Ei), sl_Ei⟩)
    (c_Ei : PySem.W.codeIn K cd_Ei "Empty.__init__" = true)
    (kp_Ei : PySem.W.keepIn K (.ref f_Ei) = true)
    (a_Ph_Pour : PySem.W.findIn K (.ref C_Pour) "held_behind" = some (some (.ref f_Ph)))
    (i_Ph : PySem.W.isFn K (.ref f_Ph) = true)
    (l_Ph : K.lookup f_Ph = some ⟨oc_Ph, od_Ph, .func (PySem.W.fnOf "held_behind" "Pour.held_behind" (defArgs s_Pour_held_behind) (defBody s_Pour_held_behind) (defScope s_Pour_held_behind) .none kV_Ph dc_Ph pm_Ph an_Ph cd_Ph ct_Ph), sl_Ph⟩)
    (c_Ph : PySem.W.codeIn K cd_Ph "Pour.held_behind" = true)
    (kp_Ph : PySem.W.keepIn K (.ref f_Ph) = true)
    (a_Fh_Fill : PySem.W.findIn K (.ref C_Fill) "held_behind" = some (some (.ref f_Fh)))
    (i_Fh : PySem.W.isFn K (.ref f_Fh) = true)
    (l_Fh : K.lookup f_Fh = some ⟨oc_Fh, od_Fh, .func (PySem.W.fnOf "held_behind" "Fill.held_behind" (defArgs s_Fill_held_behind) (defBody s_Fill_held_behind) (defScope s_Fill_held_behind) .none kV_Fh dc_Fh pm_Fh an_Fh cd_Fh ct_Fh), sl_Fh⟩)
    (c_Fh : PySem.W.codeIn K cd_Fh "Fill.held_behind" = true)
    (kp_Fh : PySem.W.keepIn K (.ref f_Fh) = true)
    (a_Eh_Empty : PySem.W.findIn K (.ref C_Empty) "held_behind" = some (some (.ref f_Eh)))
    (i_Eh : PySem.W.isFn K (.ref f_Eh) = true)
    (l_Eh : K.lookup f_Eh = some ⟨oc_Eh, od_Eh, .func (PySem.W.fnOf "held_behind" "Empty.held_behind" (defArgs s_Empty_held_behind) (defBody s_Empty_held_behind) (defScope s_Empty_held_behind) .none kV_Eh dc_Eh pm_Eh an_Eh cd_Eh ct_Eh), sl_Eh⟩)
    (c_Eh : PySem.W.codeIn K cd_Eh "Empty.held_behind" = true)
    (kp_Eh : PySem.W.keepIn K (.ref f_Eh) = true)
    (a_done_Pour : PySem.W.findIn K (.ref C_Pour) "done" = some (some (.ref f_done)))
    (a_done_Fill : PySem.W.findIn K (.ref C_Fill) "done" = some (some (.ref f_done)))
    (a_done_Empty : PySem.W.findIn K (.ref C_Empty) "done" = some (some (.ref f_done)))
    (i_done : PySem.W.isFn K (.ref f_done) = true)
    (l_done : K.lookup f_done = some ⟨oc_done, od_done, .func (PySem.W.fnOf "done" "Move.done" (defArgs s_Move_done) (defBody s_Move_done) (defScope s_Move_done) .none kV_done dc_done pm_done an_done cd_done ct_done), sl_done⟩)
    (c_done : PySem.W.codeIn K cd_done "Move.done" = true)
    (kp_done : PySem.W.keepIn K (.ref f_done) = true)
    (a_count_states : PySem.W.nsIn K mainGlobals "count_states" = some (some (.ref f_count_states)))
    (l_count_states : K.lookup f_count_states = some ⟨oc_count_states, od_count_states, .func (PySem.W.fnOf "count_states" "count_states" (defArgs s_count_states) (defBody s_count_states) (defScope s_count_states) .none kV_count_states dc_count_states pm_count_states an_count_states cd_count_states ct_count_states), sl_count_states⟩)
    (c_count_states : PySem.W.codeIn K cd_count_states "count_states" = true)
    (kp_count_states : PySem.W.keepIn K (.ref f_count_states) = true)
    (a_sizes_in : PySem.W.nsIn K mainGlobals "sizes_in" = some (some (.ref f_sizes_in)))
    (l_sizes_in : K.lookup f_sizes_in = some ⟨oc_sizes_in, od_sizes_in, .func (PySem.W.fnOf "sizes_in" "sizes_in" (defArgs s_sizes_in) (defBody s_sizes_in) (defScope s_sizes_in) .none kV_sizes_in dc_sizes_in pm_sizes_in an_sizes_in cd_sizes_in ct_sizes_in), sl_sizes_in⟩)
    (c_sizes_in : PySem.W.codeIn K cd_sizes_in "sizes_in" = true)
    (kp_sizes_in : PySem.W.keepIn K (.ref f_sizes_in) = true)
    (a_Hi_House : PySem.W.findIn K (.ref C_House) "__init__" = some (some (.ref f_Hi)))
    (i_Hi : PySem.W.isFn K (.ref f_Hi) = true)
    (l_Hi : K.lookup f_Hi = some ⟨oc_Hi, od_Hi, .func (PySem.W.fnOf "__init__" "House.__init__" (defArgs s_House_init) (defBody s_House_init) (defScope s_House_init) .none kV_Hi dc_Hi pm_Hi an_Hi cd_Hi ct_Hi), sl_Hi⟩)
    (c_Hi : PySem.W.codeIn K cd_Hi "House.__init__" = true)
    (kp_Hi : PySem.W.keepIn K (.ref f_Hi) = true)
    (a_empty_House : PySem.W.findIn K (.ref C_House) "empty" = some (some (.ref f_empty)))
    (i_empty : PySem.W.isFn K (.ref f_empty) = true)
    (l_empty : K.lookup f_empty = some ⟨oc_empty, od_empty, .func (PySem.W.fnOf "empty" "House.empty" (defArgs s_House_empty) (defBody s_House_empty) (defScope s_House_empty) .none kV_empty dc_empty pm_empty an_empty cd_empty ct_empty), sl_empty⟩)
    (c_empty : PySem.W.codeIn K cd_empty "House.empty" = true)
    (kp_empty : PySem.W.keepIn K (.ref f_empty) = true)
    (a_pours_among : PySem.W.nsIn K mainGlobals "pours_among" = some (some (.ref f_pours_among)))
    (l_pours_among : K.lookup f_pours_among = some ⟨oc_pours_among, od_pours_among, .func (PySem.W.fnOf "pours_among" "pours_among" (defArgs s_pours_among) (defBody s_pours_among) (defScope s_pours_among) .none kV_pours_among dc_pours_among pm_pours_among an_pours_among cd_pours_among ct_pours_among), sl_pours_among⟩)
    (c_pours_among : PySem.W.codeIn K cd_pours_among "pours_among" = true)
    (kp_pours_among : PySem.W.keepIn K (.ref f_pours_among) = true)
    (a_moves_House : PySem.W.findIn K (.ref C_House) "moves" = some (some (.ref f_moves)))
    (i_moves : PySem.W.isFn K (.ref f_moves) = true)
    (l_moves : K.lookup f_moves = some ⟨oc_moves, od_moves, .func (PySem.W.fnOf "moves" "House.moves" (defArgs s_House_moves) (defBody s_House_moves) (defScope s_House_moves) .none kV_moves dc_moves pm_moves an_moves cd_moves ct_moves), sl_moves⟩)
    (c_moves : PySem.W.codeIn K cd_moves "House.moves" = true)
    (kp_moves : PySem.W.keepIn K (.ref f_moves) = true)
    (a_ways : PySem.W.nsIn K mainGlobals "ways_from" = some (some (.ref f_ways)))
    (l_ways : K.lookup f_ways = some ⟨oc_ways, od_ways, .func (PySem.W.fnOf "ways_from" "ways_from" (defArgs s_ways_from) (defBody s_ways_from) (defScope s_ways_from) .none kV_ways dc_ways pm_ways an_ways cd_ways ct_ways), sl_ways⟩)
    (c_ways : PySem.W.codeIn K cd_ways "ways_from" = true)
    (kp_ways : PySem.W.keepIn K (.ref f_ways) = true)
    (a_measured : PySem.W.nsIn K mainGlobals "measured" = some (some (.ref f_measured)))
    (l_measured : K.lookup f_measured = some ⟨oc_measured, od_measured, .func (PySem.W.fnOf "measured" "measured" (defArgs s_measured) (defBody s_measured) (defScope s_measured) .none kV_measured dc_measured pm_measured an_measured cd_measured ct_measured), sl_measured⟩)
    (c_measured : PySem.W.codeIn K cd_measured "measured" = true)
    (kp_measured : PySem.W.keepIn K (.ref f_measured) = true)
    (a_check_jug_g : PySem.W.nsIn K mainGlobals "check_jug_goals" = some (some (.ref f_check_jug_g)))
    (l_check_jug_g : K.lookup f_check_jug_g = some ⟨oc_check_jug_g, od_check_jug_g, .func (PySem.W.fnOf "check_jug" "check_jug" (defArgs s_check_jug) (defBody s_check_jug) (defScope s_check_jug) .none kV_check_jug_g dc_check_jug_g pm_check_jug_g an_check_jug_g cd_check_jug_g ct_check_jug_g), sl_check_jug_g⟩)
    (c_check_jug_g : PySem.W.codeIn K cd_check_jug_g "check_jug" = true)
    (kp_check_jug_g : PySem.W.keepIn K (.ref f_check_jug_g) = true)
    (a_check_house_has_g : PySem.W.nsIn K mainGlobals "check_house_has_goals" = some (some (.ref f_check_house_has_g)))
    (l_check_house_has_g : K.lookup f_check_house_has_g = some ⟨oc_check_house_has_g, od_check_house_has_g, .func (PySem.W.fnOf "check_house_has" "check_house_has" (defArgs s_check_house_has) (defBody s_check_house_has) (defScope s_check_house_has) .none kV_check_house_has_g dc_check_house_has_g pm_check_house_has_g an_check_house_has_g cd_check_house_has_g ct_check_house_has_g), sl_check_house_has_g⟩)
    (c_check_house_has_g : PySem.W.codeIn K cd_check_house_has_g "check_house_has" = true)
    (kp_check_house_has_g : PySem.W.keepIn K (.ref f_check_house_has_g) = true)
    (a_check_amount : PySem.W.nsIn K mainGlobals "check_amount" = some (some (.ref f_check_amount)))
    (l_check_amount : K.lookup f_check_amount = some ⟨oc_check_amount, od_check_amount, .func (PySem.W.fnOf "check_amount" "check_amount" (defArgs s_check_amount) (defBody s_check_amount) (defScope s_check_amount) .none kV_check_amount dc_check_amount pm_check_amount an_check_amount cd_check_amount ct_check_amount), sl_check_amount⟩)
    (c_check_amount : PySem.W.codeIn K cd_check_amount "check_amount" = true)
    (kp_check_amount : PySem.W.keepIn K (.ref f_check_amount) = true)
    (a_check_state_of : PySem.W.nsIn K mainGlobals "check_state_of" = some (some (.ref f_check_state_of)))
    (l_check_state_of : K.lookup f_check_state_of = some ⟨oc_check_state_of, od_check_state_of, .func (PySem.W.fnOf "check_state_of" "check_state_of" (defArgs s_check_state_of) (defBody s_check_state_of) (defScope s_check_state_of) .none kV_check_state_of dc_check_state_of pm_check_state_of an_check_state_of cd_check_state_of ct_check_state_of), sl_check_state_of⟩)
    (c_check_state_of : PySem.W.codeIn K cd_check_state_of "check_state_of" = true)
    (kp_check_state_of : PySem.W.keepIn K (.ref f_check_state_of) = true)
    (a_Si_Some : PySem.W.findIn K (.ref C_Some) "__init__" = some (some (.ref f_Si)))
    (i_Si : PySem.W.isFn K (.ref f_Si) = true)
    (l_Si : K.lookup f_Si = some ⟨oc_Si, od_Si, .func (PySem.W.fnOf "__init__" "Some.__init__" (defArgs s_Some_init) (defBody s_Some_init) (defScope s_Some_init) .none kV_Si dc_Si pm_Si an_Si cd_Si ct_Si), sl_Si⟩)
    (c_Si : PySem.W.codeIn K cd_Si "Some.__init__" = true)
    (kp_Si : PySem.W.keepIn K (.ref f_Si) = true)
    (a_Om_Holds : PySem.W.findIn K (.ref C_Holds) "met_by" = some (some (.ref f_Om)))
    (i_Om : PySem.W.isFn K (.ref f_Om) = true)
    (l_Om : K.lookup f_Om = some ⟨oc_Om, od_Om, .func (PySem.W.fnOf "met_by" "Holds.met_by" (defArgs s_Holds_met_by) (defBody s_Holds_met_by) (defScope s_Holds_met_by) .none kV_Om dc_Om pm_Om an_Om cd_Om ct_Om), sl_Om⟩)
    (c_Om : PySem.W.codeIn K cd_Om "Holds.met_by" = true)
    (kp_Om : PySem.W.keepIn K (.ref f_Om) = true)
    (a_Sm_Some : PySem.W.findIn K (.ref C_Some) "met_by" = some (some (.ref f_Sm)))
    (i_Sm : PySem.W.isFn K (.ref f_Sm) = true)
    (l_Sm : K.lookup f_Sm = some ⟨oc_Sm, od_Sm, .func (PySem.W.fnOf "met_by" "Some.met_by" (defArgs s_Some_met_by) (defBody s_Some_met_by) (defScope s_Some_met_by) .none kV_Sm dc_Sm pm_Sm an_Sm cd_Sm ct_Sm), sl_Sm⟩)
    (c_Sm : PySem.W.codeIn K cd_Sm "Some.met_by" = true)
    (kp_Sm : PySem.W.keepIn K (.ref f_Sm) = true)
    (a_Um_Sum : PySem.W.findIn K (.ref C_Sum) "met_by" = some (some (.ref f_Um)))
    (i_Um : PySem.W.isFn K (.ref f_Um) = true)
    (l_Um : K.lookup f_Um = some ⟨oc_Um, od_Um, .func (PySem.W.fnOf "met_by" "Sum.met_by" (defArgs s_Sum_met_by) (defBody s_Sum_met_by) (defScope s_Sum_met_by) .none kV_Um dc_Um pm_Um an_Um cd_Um ct_Um), sl_Um⟩)
    (c_Um : PySem.W.codeIn K cd_Um "Sum.met_by" = true)
    (kp_Um : PySem.W.keepIn K (.ref f_Um) = true)
    (a_Wm_Whole : PySem.W.findIn K (.ref C_Whole) "met_by" = some (some (.ref f_Wm)))
    (i_Wm : PySem.W.isFn K (.ref f_Wm) = true)
    (l_Wm : K.lookup f_Wm = some ⟨oc_Wm, od_Wm, .func (PySem.W.fnOf "met_by" "Whole.met_by" (defArgs s_Whole_met_by) (defBody s_Whole_met_by) (defScope s_Whole_met_by) .none kV_Wm dc_Wm pm_Wm an_Wm cd_Wm ct_Wm), sl_Wm⟩)
    (c_Wm : PySem.W.codeIn K cd_Wm "Whole.met_by" = true)
    (kp_Wm : PySem.W.keepIn K (.ref f_Wm) = true)
    (a_come_Holds : PySem.W.findIn K (.ref C_Holds) "come" = some (some (.ref f_come)))
    (a_come_Some : PySem.W.findIn K (.ref C_Some) "come" = some (some (.ref f_come)))
    (a_come_Sum : PySem.W.findIn K (.ref C_Sum) "come" = some (some (.ref f_come)))
    (a_come_Whole : PySem.W.findIn K (.ref C_Whole) "come" = some (some (.ref f_come)))
    (i_come : PySem.W.isFn K (.ref f_come) = true)
    (l_come : K.lookup f_come = some ⟨oc_come, od_come, .func (PySem.W.fnOf "come" "Goal.come" (defArgs s_Goal_come) (defBody s_Goal_come) (defScope s_Goal_come) .none kV_come dc_come pm_come an_come cd_come ct_come), sl_come⟩)
    (c_come : PySem.W.codeIn K cd_come "Goal.come" = true)
    (kp_come : PySem.W.keepIn K (.ref f_come) = true)
    (a_check_goal : PySem.W.nsIn K mainGlobals "check_goal" = some (some (.ref f_check_goal)))
    (l_check_goal : K.lookup f_check_goal = some ⟨oc_check_goal, od_check_goal, .func (PySem.W.fnOf "check_goal" "check_goal" (defArgs s_check_goal) (defBody s_check_goal) (defScope s_check_goal) .none kV_check_goal dc_check_goal pm_check_goal an_check_goal cd_check_goal ct_check_goal), sl_check_goal⟩)
    (c_check_goal : PySem.W.codeIn K cd_check_goal "check_goal" = true)
    (kp_check_goal : PySem.W.keepIn K (.ref f_check_goal) = true)
    (a_nearest : PySem.W.nsIn K mainGlobals "nearest" = some (some (.ref f_nearest)))
    (l_nearest : K.lookup f_nearest = some ⟨oc_nearest, od_nearest, .func (PySem.W.fnOf "nearest" "nearest" (defArgs s_nearest) (defBody s_nearest) (defScope s_nearest) .none kV_nearest dc_nearest pm_nearest an_nearest cd_nearest ct_nearest), sl_nearest⟩)
    (c_nearest : PySem.W.codeIn K cd_nearest "nearest" = true)
    (kp_nearest : PySem.W.keepIn K (.ref f_nearest) = true)
    (a_moves_to : PySem.W.nsIn K mainGlobals "moves_to" = some (some (.ref f_moves_to)))
    (l_moves_to : K.lookup f_moves_to = some ⟨oc_moves_to, od_moves_to, .func (PySem.W.fnOf "moves_to" "moves_to" (defArgs s_moves_to) (defBody s_moves_to) (defScope s_moves_to) .none kV_moves_to dc_moves_to pm_moves_to an_moves_to cd_moves_to ct_moves_to), sl_moves_to⟩)
    (c_moves_to : PySem.W.codeIn K cd_moves_to "moves_to" = true)
    (kp_moves_to : PySem.W.keepIn K (.ref f_moves_to) = true)
    (a_heights : PySem.W.nsIn K mainGlobals "heights_in" = some (some (.ref f_heights)))
    (l_heights : K.lookup f_heights = some ⟨oc_heights, od_heights, .func (PySem.W.fnOf "heights_in" "heights_in" (defArgs s_heights_in) (defBody s_heights_in) (defScope s_heights_in) .none kV_heights dc_heights pm_heights an_heights cd_heights ct_heights), sl_heights⟩)
    (c_heights : PySem.W.codeIn K cd_heights "heights_in" = true)
    (kp_heights : PySem.W.keepIn K (.ref f_heights) = true)
    (a_Di_Poured : PySem.W.findIn K (.ref C_Poured) "__init__" = some (some (.ref f_Di)))
    (i_Di : PySem.W.isFn K (.ref f_Di) = true)
    (l_Di : K.lookup f_Di = some ⟨oc_Di, od_Di, .func (PySem.W.fnOf "__init__" "Poured.__init__" (defArgs s_Poured_init) (defBody s_Poured_init) (defScope s_Poured_init) .none kV_Di dc_Di pm_Di an_Di cd_Di ct_Di), sl_Di⟩)
    (c_Di : PySem.W.codeIn K cd_Di "Poured.__init__" = true)
    (kp_Di : PySem.W.keepIn K (.ref f_Di) = true)
    (a_Bi_Barred : PySem.W.findIn K (.ref C_Barred) "__init__" = some (some (.ref f_Bi)))
    (i_Bi : PySem.W.isFn K (.ref f_Bi) = true)
    (l_Bi : K.lookup f_Bi = some ⟨oc_Bi, od_Bi, .func (PySem.W.fnOf "__init__" "Barred.__init__" (defArgs s_Barred_init) (defBody s_Barred_init) (defScope s_Barred_init) .none kV_Bi dc_Bi pm_Bi an_Bi cd_Bi ct_Bi), sl_Bi⟩)
    (c_Bi : PySem.W.codeIn K cd_Bi "Barred.__init__" = true)
    (kp_Bi : PySem.W.keepIn K (.ref f_Bi) = true)
    (a_fewest : PySem.W.nsIn K mainGlobals "fewest" = some (some (.ref f_fewest)))
    (l_fewest : K.lookup f_fewest = some ⟨oc_fewest, od_fewest, .func (PySem.W.fnOf "fewest" "fewest" (defArgs s_fewest) (defBody s_fewest) (defScope s_fewest) .none kV_fewest dc_fewest pm_fewest an_fewest cd_fewest ct_fewest), sl_fewest⟩)
    (c_fewest : PySem.W.codeIn K cd_fewest "fewest" = true)
    (kp_fewest : PySem.W.keepIn K (.ref f_fewest) = true)
    (a_cell_at : PySem.W.nsIn K mainGlobals "_law_cell_at" = some (some (.ref f_cell_at)))
    (l_cell_at : K.lookup f_cell_at = some ⟨oc_cell_at, od_cell_at, .func (PySem.W.fnOf "_law_cell_at" "_law_cell_at" (defArgs s__law_cell_at) (defBody s__law_cell_at) (defScope s__law_cell_at) .none kV_cell_at dc_cell_at pm_cell_at an_cell_at cd_cell_at ct_cell_at), sl_cell_at⟩)
    (c_cell_at : PySem.W.codeIn K cd_cell_at "_law_cell_at" = true)
    (kp_cell_at : PySem.W.keepIn K (.ref f_cell_at) = true)
    (a_draw : PySem.W.nsIn K mainGlobals "_law_draw" = some (some (.ref f_draw)))
    (l_draw : K.lookup f_draw = some ⟨oc_draw, od_draw, .func (PySem.W.fnOf "_law_draw" "_law_draw" (defArgs s__law_draw) (defBody s__law_draw) (defScope s__law_draw) .none kV_draw dc_draw pm_draw an_draw cd_draw ct_draw), sl_draw⟩)
    (c_draw : PySem.W.codeIn K cd_draw "_law_draw" = true)
    (kp_draw : PySem.W.keepIn K (.ref f_draw) = true)
    (a_common : PySem.W.nsIn K mainGlobals "_law_common" = some (some (.ref f_common)))
    (l_common : K.lookup f_common = some ⟨oc_common, od_common, .func (PySem.W.fnOf "_law_common" "_law_common" (defArgs s__law_common) (defBody s__law_common) (defScope s__law_common) .none kV_common dc_common pm_common an_common cd_common ct_common), sl_common⟩)
    (c_common : PySem.W.codeIn K cd_common "_law_common" = true)
    (kp_common : PySem.W.keepIn K (.ref f_common) = true)
    (a_law : PySem.W.nsIn K mainGlobals "law" = some (some (.ref f_law)))
    (l_law : K.lookup f_law = some ⟨oc_law, od_law, .func (PySem.W.fnOf "law" "law" (defArgs s_law) (defBody s_law) (defScope s_law) .none kV_law dc_law pm_law an_law cd_law ct_law), sl_law⟩)
    (c_law : PySem.W.codeIn K cd_law "law" = true)
    (kp_law : PySem.W.keepIn K (.ref f_law) = true)
    : ∃ fd : FuncData, (∀ (s : Shared) (v : Value), BindsTo s fd ⟨[v], []⟩ [("_law_script", v)]) ∧ ∀ base : Heap, K.In base → base.Ns mainGlobals mg → FnOk l.prog w K mg base CX0 10 fa fd ["_law_script"] (spLaw K) := by
  have e := hfa.symm.trans (PySem.W.mg_of X G a_law)
  cases e
  have F_is_number := fun_mk (st := s_is_number) l_is_number c_is_number kp_is_number
  have b_is_number := F_is_number.binds (ps := ["value", "least", "most"]) fun _ _ _ _ _ _ us hl => by obtain ⟨_, _, _, rfl⟩ := len3 hl; rfl
  have F_is_jug := fun_mk (st := s_is_jug) l_is_jug c_is_jug kp_is_jug
  have b_is_jug := F_is_jug.binds (ps := ["value"]) fun _ _ _ _ _ _ us hl => by obtain ⟨_, rfl⟩ := len1 hl; rfl
  have F_sizes := fun_mk (st := s_House_sizes) l_sizes c_sizes kp_sizes
  have b_sizes := F_sizes.binds (ps := ["self"]) fun _ _ _ _ _ _ us hl => by obtain ⟨_, rfl⟩ := len1 hl; rfl
  have F_held_in := fun_mk (st := s_held_in) l_held_in c_held_in kp_held_in
  have b_held_in := F_held_in.binds (ps := ["house", "state"]) fun _ _ _ _ _ _ us hl => by obtain ⟨_, _, rfl⟩ := len2 hl; rfl
  have F_with_amount := fun_mk (st := s_with_amount) l_with_amount c_with_amount kp_with_amount
  have b_with_amount := F_with_amount.binds (ps := ["held", "jug", "many"]) fun _ _ _ _ _ _ us hl => by obtain ⟨_, _, _, rfl⟩ := len3 hl; rfl
  have F_check_jug := fun_mk (st := s_check_jug') l_check_jug c_check_jug kp_check_jug
  have b_check_jug := F_check_jug.binds (ps := ["jug"]) fun _ _ _ _ _ _ us hl => by obtain ⟨_, rfl⟩ := len1 hl; rfl
  have F_check_house_has := fun_mk (st := s_check_house_has') l_check_house_has c_check_house_has kp_check_house_has
  have b_check_house_has := F_check_house_has.binds (ps := ["house", "jug"]) fun _ _ _ _ _ _ us hl => by obtain ⟨_, _, rfl⟩ := len2 hl; rfl
  have F_check_house_can_tap := fun_mk (st := s_check_house_can_tap) l_check_house_can_tap c_check_house_can_tap kp_check_house_can_tap
  have b_check_house_can_tap := F_check_house_can_tap.binds (ps := ["house", "jug"]) fun _ _ _ _ _ _ us hl => by obtain ⟨_, _, rfl⟩ := len2 hl; rfl
  have F_Pi := fun_mk (st := s_Pour_init) l_Pi c_Pi kp_Pi
  have b_Pi := F_Pi.binds (ps := ["self", "one", "other"]) fun _ _ _ _ _ _ us hl => by obtain ⟨_, _, _, rfl⟩ := len3 hl; rfl
  have F_Fi := fun_mk (st := s_Fill_init) l_Fi c_Fi kp_Fi
  have b_Fi := F_Fi.binds (ps := ["self", "jug"]) fun _ _ _ _ _ _ us hl => by obtain ⟨_, _, rfl⟩ := len2 hl; rfl
  have F_Ei := fun_mk (st := s_Empty_init) l_Ei c_Ei kp_Ei
  have b_Ei := F_Ei.binds (ps := ["self", "jug"]) fun _ _ _ _ _ _ us hl => by obtain ⟨_, _, rfl⟩ := len2 hl; rfl
  have F_Ph := fun_mk (st := s_Pour_held_behind) l_Ph c_Ph kp_Ph
  have b_Ph := F_Ph.binds (ps := ["self", "house", "held"]) fun _ _ _ _ _ _ us hl => by obtain ⟨_, _, _, rfl⟩ := len3 hl; rfl
  have F_Fh := fun_mk (st := s_Fill_held_behind) l_Fh c_Fh kp_Fh
  have b_Fh := F_Fh.binds (ps := ["self", "house", "held"]) fun _ _ _ _ _ _ us hl => by obtain ⟨_, _, _, rfl⟩ := len3 hl; rfl
  have F_Eh := fun_mk (st := s_Empty_held_behind) l_Eh c_Eh kp_Eh
  have b_Eh := F_Eh.binds (ps := ["self", "house", "held"]) fun _ _ _ _ _ _ us hl => by obtain ⟨_, _, _, rfl⟩ := len3 hl; rfl
  have F_done := fun_mk (st := s_Move_done) l_done c_done kp_done
  have b_done := F_done.binds (ps := ["self", "house", "state"]) fun _ _ _ _ _ _ us hl => by obtain ⟨_, _, _, rfl⟩ := len3 hl; rfl
  have F_count_states := fun_mk (st := s_count_states) l_count_states c_count_states kp_count_states
  have b_count_states := F_count_states.binds (ps := ["sizes"]) fun _ _ _ _ _ _ us hl => by obtain ⟨_, rfl⟩ := len1 hl; rfl
  have F_sizes_in := fun_mk (st := s_sizes_in) l_sizes_in c_sizes_in kp_sizes_in
  have b_sizes_in := F_sizes_in.binds (ps := ["sizes"]) fun _ _ _ _ _ _ us hl => by obtain ⟨_, rfl⟩ := len1 hl; rfl
  have F_Hi := fun_mk (st := s_House_init) l_Hi c_Hi kp_Hi
  have b_Hi := F_Hi.binds (ps := ["self", "sizes", "tap"]) fun _ _ _ _ _ _ us hl => by obtain ⟨_, _, _, rfl⟩ := len3 hl; rfl
  have F_empty := fun_mk (st := s_House_empty) l_empty c_empty kp_empty
  have b_empty := F_empty.binds (ps := ["self"]) fun _ _ _ _ _ _ us hl => by obtain ⟨_, rfl⟩ := len1 hl; rfl
  have F_pours_among := fun_mk (st := s_pours_among) l_pours_among c_pours_among kp_pours_among
  have b_pours_among := F_pours_among.binds (ps := ["many"]) fun _ _ _ _ _ _ us hl => by obtain ⟨_, rfl⟩ := len1 hl; rfl
  have F_moves := fun_mk (st := s_House_moves) l_moves c_moves kp_moves
  have b_moves := F_moves.binds (ps := ["self"]) fun _ _ _ _ _ _ us hl => by obtain ⟨_, rfl⟩ := len1 hl; rfl
  have F_ways := fun_mk (st := s_ways_from) l_ways c_ways kp_ways
  have b_ways := F_ways.binds (ps := ["house", "state"]) fun _ _ _ _ _ _ us hl => by obtain ⟨_, _, rfl⟩ := len2 hl; rfl
  have F_measured := fun_mk (st := s_measured) l_measured c_measured kp_measured
  have b_measured := F_measured.binds (ps := ["house", "state"]) fun _ _ _ _ _ _ us hl => by obtain ⟨_, _, rfl⟩ := len2 hl; rfl
  have F_check_jug_g := fun_mk (st := s_check_jug) l_check_jug_g c_check_jug_g kp_check_jug_g
  have b_check_jug_g := F_check_jug_g.binds (ps := ["jug"]) fun _ _ _ _ _ _ us hl => by obtain ⟨_, rfl⟩ := len1 hl; rfl
  have F_check_house_has_g := fun_mk (st := s_check_house_has) l_check_house_has_g c_check_house_has_g kp_check_house_has_g
  have b_check_house_has_g := F_check_house_has_g.binds (ps := ["house", "jug"]) fun _ _ _ _ _ _ us hl => by obtain ⟨_, _, rfl⟩ := len2 hl; rfl
  have F_check_amount := fun_mk (st := s_check_amount) l_check_amount c_check_amount kp_check_amount
  have b_check_amount := F_check_amount.binds (ps := ["many"]) fun _ _ _ _ _ _ us hl => by obtain ⟨_, rfl⟩ := len1 hl; rfl
  have F_check_state_of := fun_mk (st := s_check_state_of) l_check_state_of c_check_state_of kp_check_state_of
  have b_check_state_of := F_check_state_of.binds (ps := ["house", "state"]) fun _ _ _ _ _ _ us hl => by obtain ⟨_, _, rfl⟩ := len2 hl; rfl
  have F_Si := fun_mk (st := s_Some_init) l_Si c_Si kp_Si
  have b_Si := F_Si.binds (ps := ["self", "many"]) fun _ _ _ _ _ _ us hl => by obtain ⟨_, _, rfl⟩ := len2 hl; rfl
  have F_Om := fun_mk (st := s_Holds_met_by) l_Om c_Om kp_Om
  have b_Om := F_Om.binds (ps := ["self", "house", "held"]) fun _ _ _ _ _ _ us hl => by obtain ⟨_, _, _, rfl⟩ := len3 hl; rfl
  have F_Sm := fun_mk (st := s_Some_met_by) l_Sm c_Sm kp_Sm
  have b_Sm := F_Sm.binds (ps := ["self", "house", "held"]) fun _ _ _ _ _ _ us hl => by obtain ⟨_, _, _, rfl⟩ := len3 hl; rfl
  have F_Um := fun_mk (st := s_Sum_met_by) l_Um c_Um kp_Um
  have b_Um := F_Um.binds (ps := ["self", "house", "held"]) fun _ _ _ _ _ _ us hl => by obtain ⟨_, _, _, rfl⟩ := len3 hl; rfl
  have F_Wm := fun_mk (st := s_Whole_met_by) l_Wm c_Wm kp_Wm
  have b_Wm := F_Wm.binds (ps := ["self", "house", "held"]) fun _ _ _ _ _ _ us hl => by obtain ⟨_, _, _, rfl⟩ := len3 hl; rfl
  have F_come := fun_mk (st := s_Goal_come) l_come c_come kp_come
  have b_come := F_come.binds (ps := ["self", "house", "state"]) fun _ _ _ _ _ _ us hl => by obtain ⟨_, _, _, rfl⟩ := len3 hl; rfl
  have F_check_goal := fun_mk (st := s_check_goal) l_check_goal c_check_goal kp_check_goal
  have b_check_goal := F_check_goal.binds (ps := ["goal"]) fun _ _ _ _ _ _ us hl => by obtain ⟨_, rfl⟩ := len1 hl; rfl
  have F_nearest := fun_mk (st := s_nearest) l_nearest c_nearest kp_nearest
  have b_nearest := F_nearest.binds (ps := ["house", "ways", "goal"]) fun _ _ _ _ _ _ us hl => by obtain ⟨_, _, _, rfl⟩ := len3 hl; rfl
  have F_moves_to := fun_mk (st := s_moves_to) l_moves_to c_moves_to kp_moves_to
  have b_moves_to := F_moves_to.binds (ps := ["ways", "state"]) fun _ _ _ _ _ _ us hl => by obtain ⟨_, _, rfl⟩ := len2 hl; rfl
  have F_heights := fun_mk (st := s_heights_in) l_heights c_heights kp_heights
  have b_heights := F_heights.binds (ps := ["ways"]) fun _ _ _ _ _ _ us hl => by obtain ⟨_, rfl⟩ := len1 hl; rfl
  have F_Di := fun_mk (st := s_Poured_init) l_Di c_Di kp_Di
  have b_Di := F_Di.binds (ps := ["self", "pours", "heights"]) fun _ _ _ _ _ _ us hl => by obtain ⟨_, _, _, rfl⟩ := len3 hl; rfl
  have F_Bi := fun_mk (st := s_Barred_init) l_Bi c_Bi kp_Bi
  have b_Bi := F_Bi.binds (ps := ["self", "among"]) fun _ _ _ _ _ _ us hl => by obtain ⟨_, _, rfl⟩ := len2 hl; rfl
  have F_fewest := fun_mk (st := s_fewest) l_fewest c_fewest kp_fewest
  have b_fewest := F_fewest.binds (ps := ["house", "state", "goal"]) fun _ _ _ _ _ _ us hl => by obtain ⟨_, _, _, rfl⟩ := len3 hl; rfl
  have F_cell_at := fun_mk (st := s__law_cell_at) l_cell_at c_cell_at kp_cell_at
  have b_cell_at := F_cell_at.binds (ps := ["_law_script", "_law_k"]) fun _ _ _ _ _ _ us hl => by obtain ⟨_, _, rfl⟩ := len2 hl; rfl
  have F_draw := fun_mk (st := s__law_draw) l_draw c_draw kp_draw
  have b_draw := F_draw.binds (ps := ["_law_cell", "_law_k", "_law_many"]) fun _ _ _ _ _ _ us hl => by obtain ⟨_, _, _, rfl⟩ := len3 hl; rfl
  have F_common := fun_mk (st := s__law_common) l_common c_common kp_common
  have b_common := F_common.binds (ps := ["_law_one", "_law_other"]) fun _ _ _ _ _ _ us hl => by obtain ⟨_, _, rfl⟩ := len2 hl; rfl
  have F_law := fun_mk (st := s_law) l_law c_law kp_law
  have b_law := F_law.binds (ps := ["_law_script"]) fun _ _ _ _ _ _ us hl => by obtain ⟨_, rfl⟩ := len1 hl; rfl
  have g := fun {x : Str} {v : Value} (q : PySem.W.nsIn K mainGlobals x = some (some v)) => PySem.W.mg_of X G q
  have g0 := fun {x : Str} (q : PySem.W.nsIn K mainGlobals x = some none) => PySem.W.mg_none_of X G q
  have B : Bt mg := ⟨g0 z_isinstance, g0 z_int, g0 z_bool, g0 z_tuple, g0 z_list, g0 z_len, g0 z_zip, g0 z_range, g0 z_min, g0 z_str, ⟨_, g z_MOST_JUGS⟩, ⟨_, g z_MOST_SIZE⟩⟩
  have cl_Pour : Cls K C_Pour := ⟨pg_Pour, hd_Pour, po_Pour, sa_Pour⟩
  have cl_Fill : Cls K C_Fill := ⟨pg_Fill, hd_Fill, po_Fill, sa_Fill⟩
  have cl_Empty : Cls K C_Empty := ⟨pg_Empty, hd_Empty, po_Empty, sa_Empty⟩
  have cl_House : Cls K C_House := ⟨pg_House, hd_House, po_House, sa_House⟩
  have cl_Holds : Cls K C_Holds := ⟨pg_Holds, hd_Holds, po_Holds, sa_Holds⟩
  have cl_Some : Cls K C_Some := ⟨pg_Some, hd_Some, po_Some, sa_Some⟩
  have cl_Sum : Cls K C_Sum := ⟨pg_Sum, hd_Sum, po_Sum, sa_Sum⟩
  have cl_Whole : Cls K C_Whole := ⟨pg_Whole, hd_Whole, po_Whole, sa_Whole⟩
  have cl_Poured : Cls K C_Poured := ⟨pg_Poured, hd_Poured, po_Poured, sa_Poured⟩
  have cl_Barred : Cls K C_Barred := ⟨pg_Barred, hd_Barred, po_Barred, sa_Barred⟩
  have CHo : CHs K C_House := ⟨cl_House, n_House_jug_sizes, n_House_tap⟩
  let Zz : Cz := ⟨C_Pour, C_Fill, C_Empty⟩
  have M : MvC K mg Zz := ⟨⟨cl_Pour, n_Pour_one, n_Pour_other⟩, ⟨cl_Fill, n_Fill_jug⟩, ⟨cl_Empty, n_Empty_jug⟩, ⟨ha_Pour, hn, htk, hm_Pour⟩, ⟨ha_Fill, hn, htk, hm_Fill⟩, ⟨ha_Empty, hn, htk, hm_Empty⟩, g a_Pour, g a_Fill, g a_Empty, k_Fill_Pour, k_Empty_Pour, k_Empty_Fill⟩
  let Gg : Gz := ⟨C_Holds, C_Some, C_Sum, C_Whole⟩
  have GM : GoC K mg Gg C_Goal := ⟨⟨cl_Holds, n_Holds_jug, n_Holds_many⟩, ⟨cl_Some, n_Some_many⟩, ⟨cl_Sum, n_Sum_jugs, n_Sum_many⟩, ⟨cl_Whole, n_Whole_state⟩, ⟨ha_Holds, hn, htk, hm_Holds⟩, ⟨ha_Some, hn, htk, hm_Some⟩, ⟨ha_Sum, hn, htk, hm_Sum⟩, ⟨ha_Whole, hn, htk, hm_Whole⟩, g a_Goal, g a_Holds, g a_Some, g a_Sum, g a_Whole, k_Holds_Some, k_Holds_Sum, k_Holds_Whole, k_Some_Holds, k_Some_Sum, k_Some_Whole, k_Sum_Holds, k_Sum_Some, k_Sum_Whole, k_Whole_Holds, k_Whole_Some, k_Whole_Sum, k_Holds_Goal, k_Some_Goal, k_Sum_Goal, k_Whole_Goal⟩
  have kP : CPd K C_Poured := ⟨cl_Poured, n_Poured_pours, n_Poured_heights⟩
  have kB : CBa K C_Barred := ⟨cl_Barred, n_Barred_among⟩
  have tP : CTy K C_Poured := ⟨ha_Poured, hn, htk, hm_Poured⟩
  have tB : CTy K C_Barred := ⟨ha_Barred, hn, htk, hm_Barred⟩
  refine ⟨PySem.W.fnOf "law" "law" (defArgs s_law) (defBody s_law) (defScope s_law) .none kV_law dc_law pm_law an_law cd_law ct_law, fun s v => .of_eq rfl, fun base _ _ => ?_⟩
  have o_is_number := ok_is_number (P := l.prog) (w := w) (base := base) F_is_number B
  have q_is_number : FnB l.prog w K mg base 1 "is_number" ["value", "least", "most"] _ := ⟨_, _, o_is_number, g a_is_number, kp_is_number, b_is_number⟩
  have o_is_jug := ok_is_jug F_is_jug B q_is_number
  have q_is_jug : FnB l.prog w K mg base 2 "is_jug" ["value"] _ := ⟨_, _, o_is_jug, g a_is_jug, kp_is_jug, b_is_jug⟩
  have o_sizes := ok_sizes (P := l.prog) (w := w) (base := base) F_sizes B CHo
  have q_sizes : MeB l.prog w K mg base 1 C_House "sizes" ["self"] _ := ⟨_, _, o_sizes, ⟨a_sizes_House, i_sizes, kp_sizes⟩, b_sizes, cl_House⟩
  have o_held_in := ok_held_in F_held_in B q_is_number q_sizes
  have q_held_in : FnB l.prog w K mg base 2 "held_in" ["house", "state"] _ := ⟨_, _, o_held_in, g a_held_in, kp_held_in, b_held_in⟩
  have o_with_amount := ok_with_amount (P := l.prog) (w := w) (base := base) F_with_amount B
  have q_with_amount : FnB l.prog w K mg base 1 "with_amount" ["held", "jug", "many"] _ := ⟨_, _, o_with_amount, g a_with_amount, kp_with_amount, b_with_amount⟩
  have o_check_jug := ok_check_jug F_check_jug q_is_jug
  have q_check_jug : FnB l.prog w K mg base 3 "check_jug_moves" ["jug"] _ := ⟨_, _, o_check_jug, g a_check_jug, kp_check_jug, b_check_jug⟩
  have o_check_house_has := ok_check_house_has F_check_house_has B q_sizes
  have q_check_house_has : FnB l.prog w K mg base 2 "check_house_has_moves" ["house", "jug"] _ := ⟨_, _, o_check_house_has, g a_check_house_has, kp_check_house_has, b_check_house_has⟩
  have o_check_house_can_tap := ok_check_house_can_tap F_check_house_can_tap CHo q_check_house_has
  have q_check_house_can_tap : FnB l.prog w K mg base 3 "check_house_can_tap" ["house", "jug"] _ := ⟨_, _, o_check_house_can_tap, g a_check_house_can_tap, kp_check_house_can_tap, b_check_house_can_tap⟩
  have o_Pi := ok_Pour_init (Z := Zz) F_Pi M.po q_check_jug
  have q_Pi : MkB l.prog w K mg base 4 "Pour" C_Pour ["self", "one", "other"] _ := ⟨_, _, o_Pi, g a_Pour, ⟨mk_Pour, a_Pi_Pour, i_Pi, kc_Pour⟩, b_Pi⟩
  have o_Fi := ok_Fill_init (Z := Zz) F_Fi M.fi q_check_jug
  have q_Fi : MkB l.prog w K mg base 4 "Fill" C_Fill ["self", "jug"] _ := ⟨_, _, o_Fi, g a_Fill, ⟨mk_Fill, a_Fi_Fill, i_Fi, kc_Fill⟩, b_Fi⟩
  have o_Ei := ok_Empty_init (Z := Zz) F_Ei M.em q_check_jug
  have q_Ei : MkB l.prog w K mg base 4 "Empty" C_Empty ["self", "jug"] _ := ⟨_, _, o_Ei, g a_Empty, ⟨mk_Empty, a_Ei_Empty, i_Ei, kc_Empty⟩, b_Ei⟩
  have o_Ph := (ok_Pour_hb (Z := Zz) F_Ph B M.po q_check_house_has q_sizes q_with_amount).mono (k := 4) (by decide)
  have q_Ph : MeB l.prog w K mg base 4 C_Pour "held_behind" ["self", "house", "held"] _ := ⟨_, _, o_Ph, ⟨a_Ph_Pour, i_Ph, kp_Ph⟩, b_Ph, cl_Pour⟩
  have o_Fh := ok_Fill_hb (Z := Zz) F_Fh B M.fi q_check_house_can_tap q_sizes q_with_amount
  have q_Fh : MeB l.prog w K mg base 4 C_Fill "held_behind" ["self", "house", "held"] _ := ⟨_, _, o_Fh, ⟨a_Fh_Fill, i_Fh, kp_Fh⟩, b_Fh, cl_Fill⟩
  have o_Eh := ok_Empty_hb (Z := Zz) F_Eh B M.em q_check_house_can_tap q_with_amount
  have q_Eh : MeB l.prog w K mg base 4 C_Empty "held_behind" ["self", "house", "held"] _ := ⟨_, _, o_Eh, ⟨a_Eh_Empty, i_Eh, kp_Eh⟩, b_Eh, cl_Empty⟩
  have o_done := ok_done (Z := Zz) F_done B q_held_in q_Ph q_Fh q_Eh
  have q_done_Pour : MeB l.prog w K mg base 5 C_Pour "done" ["self", "house", "state"] _ := ⟨_, _, o_done, ⟨a_done_Pour, i_done, kp_done⟩, b_done, cl_Pour⟩
  have q_done_Fill : MeB l.prog w K mg base 5 C_Fill "done" ["self", "house", "state"] _ := ⟨_, _, o_done, ⟨a_done_Fill, i_done, kp_done⟩, b_done, cl_Fill⟩
  have q_done_Empty : MeB l.prog w K mg base 5 C_Empty "done" ["self", "house", "state"] _ := ⟨_, _, o_done, ⟨a_done_Empty, i_done, kp_done⟩, b_done, cl_Empty⟩
  have o_count_states := ok_count_states (P := l.prog) (w := w) (mg := mg) (base := base) F_count_states
  have q_count_states : FnB l.prog w K mg base 1 "count_states" ["sizes"] _ := ⟨_, _, o_count_states, g a_count_states, kp_count_states, b_count_states⟩
  have o_sizes_in := ok_sizes_in F_sizes_in B ⟨_, g z_MOST_STATES⟩ q_is_number q_count_states
  have q_sizes_in : FnB l.prog w K mg base 2 "sizes_in" ["sizes"] _ := ⟨_, _, o_sizes_in, g a_sizes_in, kp_sizes_in, b_sizes_in⟩
  have o_Hi := ok_House_init F_Hi B CHo q_sizes_in
  have q_Hi : MkB l.prog w K mg base 3 "House" C_House ["self", "sizes", "tap"] _ := ⟨_, _, o_Hi, g a_House, ⟨mk_House, a_Hi_House, i_Hi, kc_House⟩, b_Hi⟩
  have o_empty := ok_empty (P := l.prog) (w := w) (base := base) F_empty B CHo
  have q_empty : MeB l.prog w K mg base 1 C_House "empty" ["self"] _ := ⟨_, _, o_empty, ⟨a_empty_House, i_empty, kp_empty⟩, b_empty, cl_House⟩
  have o_pours_among := ok_pours_among (Z := Zz) F_pours_among B q_Pi
  have q_pours_among : FnB l.prog w K mg base 6 "pours_among" ["many"] _ := ⟨_, _, o_pours_among, g a_pours_among, kp_pours_among, b_pours_among⟩
  have o_moves := ok_moves (Z := Zz) F_moves B CHo q_pours_among q_Fi q_Ei
  have q_moves : MeB l.prog w K mg base 7 C_House "moves" ["self"] _ := ⟨_, _, o_moves, ⟨a_moves_House, i_moves, kp_moves⟩, b_moves, cl_House⟩
  have o_ways := ok_ways (Z := Zz) F_ways B q_held_in q_moves (anyC q_done_Pour q_done_Fill q_done_Empty)
  have q_ways : FnB l.prog w K mg base 8 "ways_from" ["house", "state"] _ := ⟨_, _, o_ways, g a_ways, kp_ways, b_ways⟩
  have o_measured := ok_measured (Z := Zz) F_measured (g0 z_sorted) q_ways
  have q_measured : FnB l.prog w K mg base 9 "measured" ["house", "state"] _ := ⟨_, _, o_measured, g a_measured, kp_measured, b_measured⟩
  have o_check_jug_g := ok_check_jug_g F_check_jug_g q_is_jug
  have q_check_jug_g : FnB l.prog w K mg base 3 "check_jug_goals" ["jug"] _ := ⟨_, _, o_check_jug_g, g a_check_jug_g, kp_check_jug_g, b_check_jug_g⟩
  have o_check_house_has_g := ok_check_house_has_g F_check_house_has_g B q_sizes
  have q_check_house_has_g : FnB l.prog w K mg base 2 "check_house_has_goals" ["house", "jug"] _ := ⟨_, _, o_check_house_has_g, g a_check_house_has_g, kp_check_house_has_g, b_check_house_has_g⟩
  have o_check_amount := ok_check_amount F_check_amount ⟨_, g z_MOST_AMOUNT⟩ q_is_number
  have q_check_amount : FnB l.prog w K mg base 2 "check_amount" ["many"] _ := ⟨_, _, o_check_amount, g a_check_amount, kp_check_amount, b_check_amount⟩
  have o_check_state_of := ok_check_state_of F_check_state_of q_held_in
  have q_check_state_of : FnB l.prog w K mg base 3 "check_state_of" ["house", "state"] _ := ⟨_, _, o_check_state_of, g a_check_state_of, kp_check_state_of, b_check_state_of⟩
  have o_Si := ok_Some_init (Z := Gg) F_Si GM.so q_check_amount
  have q_Si : MkB l.prog w K mg base 3 "Some" C_Some ["self", "many"] _ := ⟨_, _, o_Si, g a_Some, ⟨mk_Some, a_Si_Some, i_Si, kc_Some⟩, b_Si⟩
  have o_Om := (ok_Holds_met (Z := Gg) F_Om GM.ho q_check_house_has_g).mono (k := 4) (by decide)
  have q_Om : MeB l.prog w K mg base 4 C_Holds "met_by" ["self", "house", "held"] _ := ⟨_, _, o_Om, ⟨a_Om_Holds, i_Om, kp_Om⟩, b_Om, cl_Holds⟩
  have o_Sm := (ok_Some_met (P := l.prog) (w := w) (mg := mg) (base := base) (CH := C_House) (Z := Gg) F_Sm GM.so).mono (k := 4) (by decide)
  have q_Sm : MeB l.prog w K mg base 4 C_Some "met_by" ["self", "house", "held"] _ := ⟨_, _, o_Sm, ⟨a_Sm_Some, i_Sm, kp_Sm⟩, b_Sm, cl_Some⟩
  have o_Um := (ok_Sum_met (Z := Gg) F_Um GM.su (g0 z_sum) q_check_house_has_g).mono (k := 4) (by decide)
  have q_Um : MeB l.prog w K mg base 4 C_Sum "met_by" ["self", "house", "held"] _ := ⟨_, _, o_Um, ⟨a_Um_Sum, i_Um, kp_Um⟩, b_Um, cl_Sum⟩
  have o_Wm := ok_Whole_met (Z := Gg) F_Wm B GM.wh q_check_state_of
  have q_Wm : MeB l.prog w K mg base 4 C_Whole "met_by" ["self", "house", "held"] _ := ⟨_, _, o_Wm, ⟨a_Wm_Whole, i_Wm, kp_Wm⟩, b_Wm, cl_Whole⟩
  have o_come := ok_come (Z := Gg) F_come q_held_in q_Om q_Sm q_Um q_Wm
  have q_come_Holds : MeB l.prog w K mg base 5 C_Holds "come" ["self", "house", "state"] _ := ⟨_, _, o_come, ⟨a_come_Holds, i_come, kp_come⟩, b_come, cl_Holds⟩
  have q_come_Some : MeB l.prog w K mg base 5 C_Some "come" ["self", "house", "state"] _ := ⟨_, _, o_come, ⟨a_come_Some, i_come, kp_come⟩, b_come, cl_Some⟩
  have q_come_Sum : MeB l.prog w K mg base 5 C_Sum "come" ["self", "house", "state"] _ := ⟨_, _, o_come, ⟨a_come_Sum, i_come, kp_come⟩, b_come, cl_Sum⟩
  have q_come_Whole : MeB l.prog w K mg base 5 C_Whole "come" ["self", "house", "state"] _ := ⟨_, _, o_come, ⟨a_come_Whole, i_come, kp_come⟩, b_come, cl_Whole⟩
  have o_check_goal := ok_check_goal (P := l.prog) (w := w) (base := base) (G := Gg) F_check_goal B GM
  have q_check_goal : FnB l.prog w K mg base 1 "check_goal" ["goal"] _ := ⟨_, _, o_check_goal, g a_check_goal, kp_check_goal, b_check_goal⟩
  have o_nearest := ok_nearest (Z := Zz) (G := Gg) F_nearest (anyD q_come_Holds q_come_Some q_come_Sum q_come_Whole)
  have q_nearest : FnB l.prog w K mg base 6 "nearest" ["house", "ways", "goal"] _ := ⟨_, _, o_nearest, g a_nearest, kp_nearest, b_nearest⟩
  have o_moves_to := ok_moves_to (P := l.prog) (w := w) (base := base) (Z := Zz) F_moves_to B (g0 z_reversed)
  have q_moves_to : FnB l.prog w K mg base 1 "moves_to" ["ways", "state"] _ := ⟨_, _, o_moves_to, g a_moves_to, kp_moves_to, b_moves_to⟩
  have o_heights := ok_heights (P := l.prog) (w := w) (base := base) (Z := Zz) F_heights B
  have q_heights : FnB l.prog w K mg base 1 "heights_in" ["ways"] _ := ⟨_, _, o_heights, g a_heights, kp_heights, b_heights⟩
  have o_Di := ok_Poured_init (P := l.prog) (w := w) (base := base) F_Di B kP
  have q_Di : MkB l.prog w K mg base 1 "Poured" C_Poured ["self", "pours", "heights"] _ := ⟨_, _, o_Di, g a_Poured, ⟨mk_Poured, a_Di_Poured, i_Di, kc_Poured⟩, b_Di⟩
  have o_Bi := ok_Barred_init (P := l.prog) (w := w) (base := base) F_Bi B kB
  have q_Bi : MkB l.prog w K mg base 1 "Barred" C_Barred ["self", "among"] _ := ⟨_, _, o_Bi, g a_Barred, ⟨mk_Barred, a_Bi_Barred, i_Bi, kc_Barred⟩, b_Bi⟩
  have o_fewest := ok_fewest (Z := Zz) (G := Gg) F_fewest B q_held_in q_check_goal q_ways q_nearest q_moves_to q_heights q_Di q_Bi
  have q_fewest : FnB l.prog w K mg base 9 "fewest" ["house", "state", "goal"] _ := ⟨_, _, o_fewest, g a_fewest, kp_fewest, b_fewest⟩
  have o_cell_at := ok_cell_at (P := l.prog) (w := w) (base := base) F_cell_at B
  have q_cell_at : FnB l.prog w K mg base 1 "_law_cell_at" ["_law_script", "_law_k"] _ := ⟨_, _, o_cell_at, g a_cell_at, kp_cell_at, b_cell_at⟩
  have o_draw := ok_draw (P := l.prog) (w := w) (mg := mg) (base := base) F_draw
  have q_draw : FnB l.prog w K mg base 1 "_law_draw" ["_law_cell", "_law_k", "_law_many"] _ := ⟨_, _, o_draw, g a_draw, kp_draw, b_draw⟩
  have o_common := ok_common (P := l.prog) (w := w) (base := base) F_common B
  have q_common : FnB l.prog w K mg base 1 "_law_common" ["_law_one", "_law_other"] _ := ⟨_, _, o_common, g a_common, kp_common, b_common⟩
  exact ok_law6 (Z := Zz) (G := Gg) F_law B (g0 z_max) (g a_Poured) (g a_Barred) kP kB tP tB q_draw q_cell_at q_common q_Hi q_empty q_measured q_fewest q_Si
theorem walk {l : PySem.W.OpenLaw} {q : Program} {loose : List Str} {XP : (Str → Option Value) → Heap → Prop} {YP : World → Heap → Prop} {d : DefRec} {K : Params → PySem.W.Frag} (hn : l.most = some 63) (hdf : d.params.defaults = [])
    (hY : ∀ (w : World) (h : Heap), YP w h → (K w.params).In h)
    (F : ∀ (w : World) (mg : Str → Option Value) (fa : Addr) (h : Heap), (K w.params).In h → h.Ns mainGlobals mg → mg d.name = some (.ref fa) →
      ∃ fd : FuncData, (∀ (s : Shared) (u : Value), BindsTo s fd ⟨[u], []⟩ [("_law_script", u)]) ∧ ∀ base : Heap, (K w.params).In base → base.Ns mainGlobals mg → FnOk l.prog w (K w.params) mg base CX0 10 fa fd ["_law_script"] (spLaw (K w.params))) :
    PySem.W.WalkO q loose XP YP l.row.toRowW d [] (fun f vs => PySem.call f vs) :=
  L2.walk_of (n := 63) (k := 10) (x := "_law_script") (CX := fun _ => CX0) (sp := fun w => spLaw (K w.params)) hn (by decide) hdf ⟨rfl, by decide, by decide⟩ hY F (fun _ _ a ns hl _ hS => ⟨a, ns, rfl, hS, hl, fun _ => rfl⟩) fun _ _ _ _ _ z => z

end Jug
noncomputable section
namespace Hd
open PySem PySem.W PySem.Calls PyProof.Rows
set_option maxHeartbeats 0
abbrev pg : Program := PySem.Challenge.pw_jughouse_k06_whole_two_jugs
def st (i : Nat) : Stmt := pg.main.body.getD i (.Pass ⟨0, 0, 0, 0⟩)
def me (i j : Nat) : Stmt := L2.inClass (st i) j
def de (P : Params) (k : Str) (t : Nat) (v : Value) : DictEntry := ⟨PyData.keyHash P k, .str k t, v⟩
def fu (s : Stmt) (n q : Str) (g : Addr) (cl : List (Str × Addr)) (a b c d : Value) (an : Option Addr) (e f : Value) (bu : Addr) : FuncData := ⟨n, q, L2.defArgs s, .stmts (L2.defBody s), L2.defScope s, g, cl, a, b, c, d, an, e, f, bu⟩
def o11 (P : Params) : Obj := (.mk (.type "code") none (.fields #[(.str "<module>" 182), (.str "<module>" 183), (.str "/claim/cut.py" 184), (.int 1 0), (.int 0 0), (.int 0 0), (.int 0 0), (.int 0 0), (.ref 11), (.bool false), (.int 181 0), (.ref 12), .none, .none, .none, .none, (.int 185 0), (.int 1 0), (.str "/claim/cut.py" 186)]) #[])
def o12 (P : Params) : Obj := (.mk (.type "frame") none .plain #[(some (.ref 13)), (some (.ref 3)), (some (.ref 3)), none, (some (.str "__main__" 164)), none, (some (.ref 0))])
def o13 (P : Params) : Obj := (.mk (.type "dict") none (.dict #[(de P "__name__" 165 (.str "law_jughouse_k06_whole_two_jugs" 962)), (de P "__doc__" 166 .none), (de P "__package__" 167 .none), (de P "__loader__" 168 (.builtin "__main__.__loader__#opaque")), (de P "__spec__" 169 .none), (de P "__annotations__" 170 (.ref 6)), (de P "__builtins__" 171 (.ref 4)), (de P "__file__" 173 (.str "/claim/cut.py" 172)), (de P "__cached__" 174 .none), (de P "_wall" 193 (.ref 21)), (de P "JugError" 213 (.ref 31)), (de P "BadHouse" 229 (.ref 44)), (de P "BadState" 245 (.ref 56)), (de P "BadMove" 261 (.ref 68)), (de P "BadGoal" 277 (.ref 80)), (de P "MOST_JUGS" 281 (.int 4 280)), (de P "MOST_SIZE" 283 (.int 60 282)), (de P "is_number" 292 (.ref 89)), (de P "is_jug" 299 (.ref 96)), (de P "held_in" 311 (.ref 103)), (de P "ways_from" 329 (.ref 110)), (de P "measured" 340 (.ref 117)), (de P "MOST_AMOUNT" 344 (.int 240 343)), (de P "check_jug" 351 (.ref 381)), (de P "check_jug_goals" 352 (.ref 124)), (de P "check_amount" 359 (.ref 131)), (de P "jugs_in" 368 (.ref 138)), (de P "amounts_in" 377 (.ref 145)), (de P "check_house_has" 385 (.ref 388)), (de P "check_house_has_goals" 386 (.ref 152)), (de P "check_state_of" 394 (.ref 159)), (de P "Goal" 433 (.ref 183)), (de P "Holds" 469 (.ref 211)), (de P "Some" 503 (.ref 237)), (de P "Sum" 536 (.ref 261)), (de P "Whole" 570 (.ref 287)), (de P "check_goal" 577 (.ref 296)), (de P "Answer" 599 (.ref 306)), (de P "Poured" 623 (.ref 325)), (de P "Barred" 648 (.ref 344)), (de P "nearest" 658 (.ref 353)), (de P "moves_to" 668 (.ref 360)), (de P "heights_in" 678 (.ref 367)), (de P "fewest" 689 (.ref 374)), (de P "check_jug_moves" 699 (.ref 381)), (de P "check_house_has_moves" 708 (.ref 388)), (de P "check_house_can_tap" 716 (.ref 395)), (de P "with_amount" 726 (.ref 402)), (de P "Move" 765 (.ref 426)), (de P "Pour" 804 (.ref 454)), (de P "Fill" 838 (.ref 480)), (de P "Empty" 872 (.ref 506)), (de P "MOST_STATES" 876 (.int 2000 875)), (de P "sizes_in" 885 (.ref 515)), (de P "count_states" 894 (.ref 522)), (de P "pours_among" 904 (.ref 529)), (de P "House" 961 (.ref 570)), (de P "_law_cell_at" 971 (.ref 581)), (de P "_law_draw" 981 (.ref 588)), (de P "_law_common" 991 (.ref 595)), (de P "law" 1003 (.ref 602))] 61) #[])
def o14 (P : Params) : Obj := (.mk .none none (.fields #[(.int 1 0), (.int 0 0), (.ref 20), (.int 5 0), (.int 0 0), (.ref 27), (.int 7 0), (.int 0 0), (.ref 40), (.int 9 0), (.int 0 0), (.ref 52), (.int 11 0), (.int 0 0), (.ref 64), (.int 13 0), (.int 0 0), (.ref 76), (.int 18 0), (.int 0 0), (.ref 88), (.int 20 0), (.int 0 0), (.ref 95), (.int 22 0), (.int 0 0), (.ref 102), (.int 34 0), (.int 0 0), (.ref 109), (.int 49 0), (.int 0 0), (.ref 116), (.int 57 0), (.int 0 0), (.ref 123), (.int 61 0), (.int 0 0), (.ref 130), (.int 64 0), (.int 0 0), (.ref 137), (.int 75 0), (.int 0 0), (.ref 144), (.int 85 0), (.int 0 0), (.ref 151), (.int 89 0), (.int 0 0), (.ref 158), (.int 94 0), (.int 0 0), (.ref 165), (.int 102 0), (.int 0 0), (.ref 193), (.int 113 0), (.int 0 0), (.ref 219), (.int 121 0), (.int 0 0), (.ref 245), (.int 132 0), (.int 0 0), (.ref 269), (.int 140 0), (.int 0 0), (.ref 295), (.int 144 0), (.int 0 0), (.ref 302), (.int 146 0), (.int 0 0), (.ref 316), (.int 151 0), (.int 0 0), (.ref 333), (.int 155 0), (.int 0 0), (.ref 352), (.int 160 0), (.int 0 0), (.ref 359), (.int 167 0), (.int 0 0), (.ref 366), (.int 173 0), (.int 0 0), (.ref 373), (.int 182 0), (.int 0 0), (.ref 380), (.int 186 0), (.int 0 0), (.ref 387), (.int 190 0), (.int 0 0), (.ref 394), (.int 194 0), (.int 0 0), (.ref 401), (.int 198 0), (.int 0 0), (.ref 408), (.int 206 0), (.int 0 0), (.ref 436), (.int 223 0), (.int 0 0), (.ref 462), (.int 232 0), (.int 0 0), (.ref 488), (.int 243 0), (.int 0 0), (.ref 514), (.int 255 0), (.int 0 0), (.ref 521), (.int 260 0), (.int 0 0), (.ref 528), (.int 267 0), (.int 0 0), (.ref 535), (.int 292 0), (.int 0 0), (.ref 580), (.int 296 0), (.int 0 0), (.ref 587), (.int 299 0), (.int 0 0), (.ref 594), (.int 305 0), (.int 0 0), (.ref 601)]) #[])
def o15 (P : Params) : Obj := (.mk (.type "tuple") none (.seq #[(.str "k" 190)] 0) #[])
def o16 (P : Params) : Obj := (.mk .none none (.func (fu (st 0) "_wall" "_wall" 0 [] .none .none .none .none none .none .none 0)) #[])
def o17 (P : Params) : Obj := (.mk (.type "code") none (.fields #[(.str "_wall" 187), (.str "_wall" 188), (.str "/claim/cut.py" 189), (.int 1 0), (.int 1 0), (.int 0 0), (.int 0 0), (.int 3 0), (.ref 15), (.bool true), (.int 181 0), (.ref 16), .none, (.ref 17), (.ref 18), (.ref 19), (.int 191 0), (.int 1 0), (.str "/claim/cut.py" 192)]) #[])
def o18 (P : Params) : Obj := (.mk (.type "function") none (.func (fu (st 0) "_wall" "_wall" 3 [] .none .none .none (.str "__main__" 164) none (.ref 20) .none 0)) #[])
def o19 (P : Params) : Obj := (.mk (.type "tuple") none (.seq #[(.type "ValueError")] 0) #[])
def o20 (P : Params) : Obj := (.mk (.type "builtin_function_or_method") none (.fields #[(.builtin "type.__prepare__"), (.type "type")]) #[])
def o21 (P : Params) : Obj := (.mk (.type "dict") none (.dict #[(de P "__module__" 203 (.str "jughouse.errors" 194)), (de P "__qualname__" 205 (.str "JugError" 204)), (de P "__firstlineno__" 207 (.int 5 206)), (de P "__static_attributes__" 208 (.ref 29))] 4) #[])
def o22 (P : Params) : Obj := (.mk (.type "code") none (.fields #[(.str "JugError" 198), (.str "JugError" 199), (.str "/claim/cut.py" 200), (.int 5 0), (.int 0 0), (.int 0 0), (.int 0 0), (.int 0 0), (.ref 25), (.bool false), (.int 181 0), (.ref 26), .none, .none, .none, .none, (.int 201 0), (.int 5 0), (.str "/claim/cut.py" 202)]) #[])
def o23 (P : Params) : Obj := (.mk (.type "frame") none .plain #[(some (.ref 27)), (some (.ref 3)), (some (.ref 24)), none, (some (.str "jughouse.errors" 194)), none, (some (.ref 0))])
def o24 (P : Params) : Obj := (.mk (.type "dict") none (.dict #[(de P "__module__" 203 (.str "jughouse.errors" 194)), (de P "__firstlineno__" 207 (.int 5 206)), (de P "__static_attributes__" 208 (.ref 29)), (de P "__weakref__" 210 (.ref 32)), (de P "__doc__" 211 .none)] 3) #[])
def o25 (P : Params) : Obj := (.mk (.type "type") none (.cls (.mk "JugError" [(.type "ValueError")] [(.ref 31), (.type "ValueError"), (.type "Exception"), (.type "BaseException"), (.type "object")] 30 "JugError" true [] [(.ref 44), (.ref 56), (.ref 68), (.ref 80)] false none false)) #[(some (.ref 22)), none, (some (.str "JugError" 196)), (some (.str "JugError" 204)), (some (.builtin "ValueError.__new__")), (some (.bool true))])
def o26 (P : Params) : Obj := (.mk (.type "getset_descriptor") none (.fields #[(.str "__weakref__" 209), (.ref 31), (.builtin "ExceptionGroup.__weakref__"), .none]) #[])
def o27 (P : Params) : Obj := (.mk (.type "super") none (.fields #[(.ref 31), (.ref 31), (.ref 31)]) #[])
def o28 (P : Params) : Obj := (.mk (.type "builtin_function_or_method") none (.fields #[(.builtin "object.__init_subclass__"), (.ref 31)]) #[])
def o29 (P : Params) : Obj := (.mk (.type "tuple") none (.seq #[(.ref 31)] 0) #[])
def o30 (P : Params) : Obj := (.mk (.type "dict") none (.dict #[(de P "__module__" 221 (.str "jughouse.errors" 194)), (de P "__qualname__" 223 (.str "BadHouse" 222)), (de P "__firstlineno__" 225 (.int 7 224)), (de P "__static_attributes__" 226 (.ref 42))] 4) #[])
def o31 (P : Params) : Obj := (.mk (.type "code") none (.fields #[(.str "BadHouse" 216), (.str "BadHouse" 217), (.str "/claim/cut.py" 218), (.int 7 0), (.int 0 0), (.int 0 0), (.int 0 0), (.int 0 0), (.ref 38), (.bool false), (.int 181 0), (.ref 39), .none, .none, .none, .none, (.int 219 0), (.int 7 0), (.str "/claim/cut.py" 220)]) #[])
def o32 (P : Params) : Obj := (.mk (.type "frame") none .plain #[(some (.ref 40)), (some (.ref 3)), (some (.ref 37)), none, (some (.str "jughouse.errors" 194)), none, (some (.ref 0))])
def o33 (P : Params) : Obj := (.mk (.type "dict") none (.dict #[(de P "__module__" 221 (.str "jughouse.errors" 194)), (de P "__firstlineno__" 225 (.int 7 224)), (de P "__static_attributes__" 226 (.ref 42)), (de P "__doc__" 227 .none)] 2) #[])
def o34 (P : Params) : Obj := (.mk (.type "type") none (.cls (.mk "BadHouse" [(.ref 31)] [(.ref 44), (.ref 31), (.type "ValueError"), (.type "Exception"), (.type "BaseException"), (.type "object")] 43 "BadHouse" true [] [] false none false)) #[(some (.ref 35)), none, (some (.str "BadHouse" 214)), (some (.str "BadHouse" 222)), (some (.builtin "ValueError.__new__")), (some (.bool true))])
def o35 (P : Params) : Obj := (.mk (.type "super") none (.fields #[(.ref 44), (.ref 44), (.ref 44)]) #[])
def o36 (P : Params) : Obj := (.mk (.type "builtin_function_or_method") none (.fields #[(.builtin "object.__init_subclass__"), (.ref 44)]) #[])
def o37 (P : Params) : Obj := (.mk (.type "dict") none (.dict #[(de P "__module__" 237 (.str "jughouse.errors" 194)), (de P "__qualname__" 239 (.str "BadState" 238)), (de P "__firstlineno__" 241 (.int 9 240)), (de P "__static_attributes__" 242 (.ref 54))] 4) #[])
def o38 (P : Params) : Obj := (.mk (.type "code") none (.fields #[(.str "BadState" 232), (.str "BadState" 233), (.str "/claim/cut.py" 234), (.int 9 0), (.int 0 0), (.int 0 0), (.int 0 0), (.int 0 0), (.ref 50), (.bool false), (.int 181 0), (.ref 51), .none, .none, .none, .none, (.int 235 0), (.int 9 0), (.str "/claim/cut.py" 236)]) #[])
def o39 (P : Params) : Obj := (.mk (.type "frame") none .plain #[(some (.ref 52)), (some (.ref 3)), (some (.ref 49)), none, (some (.str "jughouse.errors" 194)), none, (some (.ref 0))])
def o40 (P : Params) : Obj := (.mk (.type "dict") none (.dict #[(de P "__module__" 237 (.str "jughouse.errors" 194)), (de P "__firstlineno__" 241 (.int 9 240)), (de P "__static_attributes__" 242 (.ref 54)), (de P "__doc__" 243 .none)] 2) #[])
def o41 (P : Params) : Obj := (.mk (.type "type") none (.cls (.mk "BadState" [(.ref 31)] [(.ref 56), (.ref 31), (.type "ValueError"), (.type "Exception"), (.type "BaseException"), (.type "object")] 55 "BadState" true [] [] false none false)) #[(some (.ref 47)), none, (some (.str "BadState" 230)), (some (.str "BadState" 238)), (some (.builtin "ValueError.__new__")), (some (.bool true))])
def o42 (P : Params) : Obj := (.mk (.type "super") none (.fields #[(.ref 56), (.ref 56), (.ref 56)]) #[])
def o43 (P : Params) : Obj := (.mk (.type "builtin_function_or_method") none (.fields #[(.builtin "object.__init_subclass__"), (.ref 56)]) #[])
def o44 (P : Params) : Obj := (.mk (.type "dict") none (.dict #[(de P "__module__" 253 (.str "jughouse.errors" 194)), (de P "__qualname__" 255 (.str "BadMove" 254)), (de P "__firstlineno__" 257 (.int 11 256)), (de P "__static_attributes__" 258 (.ref 66))] 4) #[])
def o45 (P : Params) : Obj := (.mk (.type "code") none (.fields #[(.str "BadMove" 248), (.str "BadMove" 249), (.str "/claim/cut.py" 250), (.int 11 0), (.int 0 0), (.int 0 0), (.int 0 0), (.int 0 0), (.ref 62), (.bool false), (.int 181 0), (.ref 63), .none, .none, .none, .none, (.int 251 0), (.int 11 0), (.str "/claim/cut.py" 252)]) #[])
def o46 (P : Params) : Obj := (.mk (.type "frame") none .plain #[(some (.ref 64)), (some (.ref 3)), (some (.ref 61)), none, (some (.str "jughouse.errors" 194)), none, (some (.ref 0))])
def o47 (P : Params) : Obj := (.mk (.type "dict") none (.dict #[(de P "__module__" 253 (.str "jughouse.errors" 194)), (de P "__firstlineno__" 257 (.int 11 256)), (de P "__static_attributes__" 258 (.ref 66)), (de P "__doc__" 259 .none)] 2) #[])
def o48 (P : Params) : Obj := (.mk (.type "type") none (.cls (.mk "BadMove" [(.ref 31)] [(.ref 68), (.ref 31), (.type "ValueError"), (.type "Exception"), (.type "BaseException"), (.type "object")] 67 "BadMove" true [] [] false none false)) #[(some (.ref 59)), none, (some (.str "BadMove" 246)), (some (.str "BadMove" 254)), (some (.builtin "ValueError.__new__")), (some (.bool true))])
def o49 (P : Params) : Obj := (.mk (.type "super") none (.fields #[(.ref 68), (.ref 68), (.ref 68)]) #[])
def o50 (P : Params) : Obj := (.mk (.type "builtin_function_or_method") none (.fields #[(.builtin "object.__init_subclass__"), (.ref 68)]) #[])
def o51 (P : Params) : Obj := (.mk (.type "dict") none (.dict #[(de P "__module__" 269 (.str "jughouse.errors" 194)), (de P "__qualname__" 271 (.str "BadGoal" 270)), (de P "__firstlineno__" 273 (.int 13 272)), (de P "__static_attributes__" 274 (.ref 78))] 4) #[])
def o52 (P : Params) : Obj := (.mk (.type "code") none (.fields #[(.str "BadGoal" 264), (.str "BadGoal" 265), (.str "/claim/cut.py" 266), (.int 13 0), (.int 0 0), (.int 0 0), (.int 0 0), (.int 0 0), (.ref 74), (.bool false), (.int 181 0), (.ref 75), .none, .none, .none, .none, (.int 267 0), (.int 13 0), (.str "/claim/cut.py" 268)]) #[])
def o53 (P : Params) : Obj := (.mk (.type "frame") none .plain #[(some (.ref 76)), (some (.ref 3)), (some (.ref 73)), none, (some (.str "jughouse.errors" 194)), none, (some (.ref 0))])
def o54 (P : Params) : Obj := (.mk (.type "dict") none (.dict #[(de P "__module__" 269 (.str "jughouse.errors" 194)), (de P "__firstlineno__" 273 (.int 13 272)), (de P "__static_attributes__" 274 (.ref 78)), (de P "__doc__" 275 .none)] 2) #[])
def o55 (P : Params) : Obj := (.mk (.type "type") none (.cls (.mk "BadGoal" [(.ref 31)] [(.ref 80), (.ref 31), (.type "ValueError"), (.type "Exception"), (.type "BaseException"), (.type "object")] 79 "BadGoal" true [] [] false none false)) #[(some (.ref 71)), none, (some (.str "BadGoal" 262)), (some (.str "BadGoal" 270)), (some (.builtin "ValueError.__new__")), (some (.bool true))])
def o56 (P : Params) : Obj := (.mk (.type "super") none (.fields #[(.ref 80), (.ref 80), (.ref 80)]) #[])
def o57 (P : Params) : Obj := (.mk (.type "builtin_function_or_method") none (.fields #[(.builtin "object.__init_subclass__"), (.ref 80)]) #[])
def o58 (P : Params) : Obj := (.mk (.type "tuple") none (.seq #[(.str "value" 287), (.str "least" 288), (.str "most" 289)] 0) #[])
def o59 (P : Params) : Obj := (.mk .none none (.func (fu (st 10) "is_number" "is_number" 0 [] .none .none .none .none none .none .none 0)) #[])
def o60 (P : Params) : Obj := (.mk (.type "code") none (.fields #[(.str "is_number" 284), (.str "is_number" 285), (.str "/claim/cut.py" 286), (.int 18 0), (.int 3 0), (.int 0 0), (.int 0 0), (.int 3 0), (.ref 83), (.bool true), (.int 181 0), (.ref 84), .none, (.ref 85), (.ref 86), (.ref 87), (.int 290 0), (.int 18 0), (.str "/claim/cut.py" 291)]) #[])
def o61 (P : Params) : Obj := (.mk (.type "function") none (.func (fu (st 10) "is_number" "is_number" 3 [] .none .none .none (.str "jughouse.checks" 278) none (.ref 88) .none 0)) #[])
def o62 (P : Params) : Obj := (.mk (.type "tuple") none (.seq #[(.str "value" 296)] 0) #[])
def o63 (P : Params) : Obj := (.mk .none none (.func (fu (st 11) "is_jug" "is_jug" 0 [] .none .none .none .none none .none .none 0)) #[])
def o64 (P : Params) : Obj := (.mk (.type "code") none (.fields #[(.str "is_jug" 293), (.str "is_jug" 294), (.str "/claim/cut.py" 295), (.int 20 0), (.int 1 0), (.int 0 0), (.int 0 0), (.int 3 0), (.ref 90), (.bool true), (.int 181 0), (.ref 91), .none, (.ref 92), (.ref 93), (.ref 94), (.int 297 0), (.int 20 0), (.str "/claim/cut.py" 298)]) #[])
def o65 (P : Params) : Obj := (.mk (.type "function") none (.func (fu (st 11) "is_jug" "is_jug" 3 [] .none .none .none (.str "jughouse.checks" 278) none (.ref 95) .none 0)) #[])
def o66 (P : Params) : Obj := (.mk (.type "tuple") none (.seq #[(.str "house" 303), (.str "state" 304), (.str "held" 305), (.str "sizes" 306), (.str "many" 307), (.str "size" 308)] 0) #[])
def o67 (P : Params) : Obj := (.mk .none none (.func (fu (st 12) "held_in" "held_in" 0 [] .none .none .none .none none .none .none 0)) #[])
def o68 (P : Params) : Obj := (.mk (.type "code") none (.fields #[(.str "held_in" 300), (.str "held_in" 301), (.str "/claim/cut.py" 302), (.int 22 0), (.int 2 0), (.int 0 0), (.int 0 0), (.int 3 0), (.ref 97), (.bool true), (.int 181 0), (.ref 98), .none, (.ref 99), (.ref 100), (.ref 101), (.int 309 0), (.int 22 0), (.str "/claim/cut.py" 310)]) #[])
def o69 (P : Params) : Obj := (.mk (.type "function") none (.func (fu (st 12) "held_in" "held_in" 3 [] .none .none .none (.str "jughouse.checks" 278) none (.ref 102) .none 0)) #[])
def o70 (P : Params) : Obj := (.mk (.type "tuple") none (.seq #[(.str "house" 317), (.str "state" 318), (.str "start" 319), (.str "moves" 320), (.str "ways" 321), (.str "row" 322), (.str "place" 323), (.str "here" 324), (.str "move" 325), (.str "behind" 326)] 0) #[])
def o71 (P : Params) : Obj := (.mk .none none (.func (fu (st 14) "ways_from" "ways_from" 0 [] .none .none .none .none none .none .none 0)) #[])
def o72 (P : Params) : Obj := (.mk (.type "code") none (.fields #[(.str "ways_from" 314), (.str "ways_from" 315), (.str "/claim/cut.py" 316), (.int 34 0), (.int 2 0), (.int 0 0), (.int 0 0), (.int 3 0), (.ref 104), (.bool true), (.int 181 0), (.ref 105), .none, (.ref 106), (.ref 107), (.ref 108), (.int 327 0), (.int 34 0), (.str "/claim/cut.py" 328)]) #[])
def o73 (P : Params) : Obj := (.mk (.type "function") none (.func (fu (st 14) "ways_from" "ways_from" 3 [] .none .none .none (.str "jughouse.reach" 312) none (.ref 109) .none 0)) #[])
def o74 (P : Params) : Obj := (.mk (.type "tuple") none (.seq #[(.str "house" 333), (.str "state" 334), (.str "amounts" 335), (.str "held" 336), (.str "many" 337)] 0) #[])
def o75 (P : Params) : Obj := (.mk .none none (.func (fu (st 15) "measured" "measured" 0 [] .none .none .none .none none .none .none 0)) #[])
def o76 (P : Params) : Obj := (.mk (.type "code") none (.fields #[(.str "measured" 330), (.str "measured" 331), (.str "/claim/cut.py" 332), (.int 49 0), (.int 2 0), (.int 0 0), (.int 0 0), (.int 3 0), (.ref 111), (.bool true), (.int 181 0), (.ref 112), .none, (.ref 113), (.ref 114), (.ref 115), (.int 338 0), (.int 49 0), (.str "/claim/cut.py" 339)]) #[])
def o77 (P : Params) : Obj := (.mk (.type "function") none (.func (fu (st 15) "measured" "measured" 3 [] .none .none .none (.str "jughouse.reach" 312) none (.ref 116) .none 0)) #[])
def o78 (P : Params) : Obj := (.mk (.type "tuple") none (.seq #[(.str "jug" 348)] 0) #[])
def o79 (P : Params) : Obj := (.mk .none none (.func (fu (st 18) "check_jug" "check_jug" 0 [] .none .none .none .none none .none .none 0)) #[])
def o80 (P : Params) : Obj := (.mk (.type "code") none (.fields #[(.str "check_jug" 345), (.str "check_jug" 346), (.str "/claim/cut.py" 347), (.int 57 0), (.int 1 0), (.int 0 0), (.int 0 0), (.int 3 0), (.ref 118), (.bool true), (.int 181 0), (.ref 119), .none, (.ref 120), (.ref 121), (.ref 122), (.int 349 0), (.int 57 0), (.str "/claim/cut.py" 350)]) #[])
def o81 (P : Params) : Obj := (.mk (.type "function") none (.func (fu (st 18) "check_jug" "check_jug" 3 [] .none .none .none (.str "jughouse.goals" 341) none (.ref 123) .none 0)) #[])
def o82 (P : Params) : Obj := (.mk (.type "tuple") none (.seq #[(.str "many" 356)] 0) #[])
def o83 (P : Params) : Obj := (.mk .none none (.func (fu (st 20) "check_amount" "check_amount" 0 [] .none .none .none .none none .none .none 0)) #[])
def o84 (P : Params) : Obj := (.mk (.type "code") none (.fields #[(.str "check_amount" 353), (.str "check_amount" 354), (.str "/claim/cut.py" 355), (.int 61 0), (.int 1 0), (.int 0 0), (.int 0 0), (.int 3 0), (.ref 125), (.bool true), (.int 181 0), (.ref 126), .none, (.ref 127), (.ref 128), (.ref 129), (.int 357 0), (.int 61 0), (.str "/claim/cut.py" 358)]) #[])
def o85 (P : Params) : Obj := (.mk (.type "function") none (.func (fu (st 20) "check_amount" "check_amount" 3 [] .none .none .none (.str "jughouse.goals" 341) none (.ref 130) .none 0)) #[])
def o86 (P : Params) : Obj := (.mk (.type "tuple") none (.seq #[(.str "jugs" 363), (.str "told" 364), (.str "jug" 365)] 0) #[])
def o87 (P : Params) : Obj := (.mk .none none (.func (fu (st 21) "jugs_in" "jugs_in" 0 [] .none .none .none .none none .none .none 0)) #[])
def o88 (P : Params) : Obj := (.mk (.type "code") none (.fields #[(.str "jugs_in" 360), (.str "jugs_in" 361), (.str "/claim/cut.py" 362), (.int 64 0), (.int 1 0), (.int 0 0), (.int 0 0), (.int 3 0), (.ref 132), (.bool true), (.int 181 0), (.ref 133), .none, (.ref 134), (.ref 135), (.ref 136), (.int 366 0), (.int 64 0), (.str "/claim/cut.py" 367)]) #[])
def o89 (P : Params) : Obj := (.mk (.type "function") none (.func (fu (st 21) "jugs_in" "jugs_in" 3 [] .none .none .none (.str "jughouse.goals" 341) none (.ref 137) .none 0)) #[])
def o90 (P : Params) : Obj := (.mk (.type "tuple") none (.seq #[(.str "state" 372), (.str "told" 373), (.str "many" 374)] 0) #[])
def o91 (P : Params) : Obj := (.mk .none none (.func (fu (st 22) "amounts_in" "amounts_in" 0 [] .none .none .none .none none .none .none 0)) #[])
def o92 (P : Params) : Obj := (.mk (.type "code") none (.fields #[(.str "amounts_in" 369), (.str "amounts_in" 370), (.str "/claim/cut.py" 371), (.int 75 0), (.int 1 0), (.int 0 0), (.int 0 0), (.int 3 0), (.ref 139), (.bool true), (.int 181 0), (.ref 140), .none, (.ref 141), (.ref 142), (.ref 143), (.int 375 0), (.int 75 0), (.str "/claim/cut.py" 376)]) #[])
def o93 (P : Params) : Obj := (.mk (.type "function") none (.func (fu (st 22) "amounts_in" "amounts_in" 3 [] .none .none .none (.str "jughouse.goals" 341) none (.ref 144) .none 0)) #[])
def o94 (P : Params) : Obj := (.mk (.type "tuple") none (.seq #[(.str "house" 381), (.str "jug" 382)] 0) #[])
def o95 (P : Params) : Obj := (.mk .none none (.func (fu (st 23) "check_house_has" "check_house_has" 0 [] .none .none .none .none none .none .none 0)) #[])
def o96 (P : Params) : Obj := (.mk (.type "code") none (.fields #[(.str "check_house_has" 378), (.str "check_house_has" 379), (.str "/claim/cut.py" 380), (.int 85 0), (.int 2 0), (.int 0 0), (.int 0 0), (.int 3 0), (.ref 146), (.bool true), (.int 181 0), (.ref 147), .none, (.ref 148), (.ref 149), (.ref 150), (.int 383 0), (.int 85 0), (.str "/claim/cut.py" 384)]) #[])
def o97 (P : Params) : Obj := (.mk (.type "function") none (.func (fu (st 23) "check_house_has" "check_house_has" 3 [] .none .none .none (.str "jughouse.goals" 341) none (.ref 151) .none 0)) #[])
def o98 (P : Params) : Obj := (.mk (.type "tuple") none (.seq #[(.str "house" 390), (.str "state" 391)] 0) #[])
def o99 (P : Params) : Obj := (.mk .none none (.func (fu (st 25) "check_state_of" "check_state_of" 0 [] .none .none .none .none none .none .none 0)) #[])
def o100 (P : Params) : Obj := (.mk (.type "code") none (.fields #[(.str "check_state_of" 387), (.str "check_state_of" 388), (.str "/claim/cut.py" 389), (.int 89 0), (.int 2 0), (.int 0 0), (.int 0 0), (.int 3 0), (.ref 153), (.bool true), (.int 181 0), (.ref 154), .none, (.ref 155), (.ref 156), (.ref 157), (.int 392 0), (.int 89 0), (.str "/claim/cut.py" 393)]) #[])
def o101 (P : Params) : Obj := (.mk (.type "function") none (.func (fu (st 25) "check_state_of" "check_state_of" 3 [] .none .none .none (.str "jughouse.goals" 341) none (.ref 158) .none 0)) #[])
def o102 (P : Params) : Obj := (.mk (.type "dict") none (.dict #[(de P "__module__" 402 (.str "jughouse.goals" 341)), (de P "__qualname__" 404 (.str "Goal" 403)), (de P "__firstlineno__" 406 (.int 94 405)), (de P "come" 416 (.ref 173)), (de P "met_by" 425 (.ref 180)), (de P "__static_attributes__" 426 (.ref 181))] 6) #[])
def o103 (P : Params) : Obj := (.mk .none none (.fields #[(.int 96 0), (.int 4 0), (.ref 172), (.int 100 0), (.int 4 0), (.ref 179)]) #[])
def o104 (P : Params) : Obj := (.mk (.type "code") none (.fields #[(.str "Goal" 397), (.str "Goal" 398), (.str "/claim/cut.py" 399), (.int 94 0), (.int 0 0), (.int 0 0), (.int 0 0), (.int 0 0), (.ref 163), (.bool false), (.int 181 0), (.ref 164), .none, .none, .none, .none, (.int 400 0), (.int 94 0), (.str "/claim/cut.py" 401)]) #[])
def o105 (P : Params) : Obj := (.mk (.type "frame") none .plain #[(some (.ref 165)), (some (.ref 3)), (some (.ref 162)), none, (some (.str "jughouse.goals" 341)), none, (some (.ref 0))])
def o106 (P : Params) : Obj := (.mk (.type "tuple") none (.seq #[(.str "self" 410), (.str "house" 411), (.str "state" 412), (.str "held" 413)] 0) #[])
def o107 (P : Params) : Obj := (.mk .none none (.func (fu (me 26 0) "come" "Goal.come" 0 [] .none .none .none .none none .none .none 0)) #[])
def o108 (P : Params) : Obj := (.mk (.type "code") none (.fields #[(.str "come" 407), (.str "Goal.come" 408), (.str "/claim/cut.py" 409), (.int 96 0), (.int 3 0), (.int 0 0), (.int 0 0), (.int 3 0), (.ref 167), (.bool true), (.int 181 0), (.ref 168), .none, (.ref 169), (.ref 170), (.ref 171), (.int 414 0), (.int 96 0), (.str "/claim/cut.py" 415)]) #[])
def o109 (P : Params) : Obj := (.mk (.type "function") none (.func (fu (me 26 0) "come" "Goal.come" 3 [] .none .none .none (.str "jughouse.goals" 341) none (.ref 172) .none 0)) #[])
def o110 (P : Params) : Obj := (.mk (.type "tuple") none (.seq #[(.str "self" 420), (.str "house" 421), (.str "held" 422)] 0) #[])
def o111 (P : Params) : Obj := (.mk .none none (.func (fu (me 26 1) "met_by" "Goal.met_by" 0 [] .none .none .none .none none .none .none 0)) #[])
def o112 (P : Params) : Obj := (.mk (.type "code") none (.fields #[(.str "met_by" 417), (.str "Goal.met_by" 418), (.str "/claim/cut.py" 419), (.int 100 0), (.int 3 0), (.int 0 0), (.int 0 0), (.int 3 0), (.ref 174), (.bool true), (.int 181 0), (.ref 175), .none, (.ref 176), (.ref 177), (.ref 178), (.int 423 0), (.int 100 0), (.str "/claim/cut.py" 424)]) #[])
def o113 (P : Params) : Obj := (.mk (.type "function") none (.func (fu (me 26 1) "met_by" "Goal.met_by" 3 [] .none .none .none (.str "jughouse.goals" 341) none (.ref 179) .none 0)) #[])
def o114 (P : Params) : Obj := (.mk (.type "dict") none (.dict #[(de P "__module__" 402 (.str "jughouse.goals" 341)), (de P "__firstlineno__" 406 (.int 94 405)), (de P "come" 416 (.ref 173)), (de P "met_by" 425 (.ref 180)), (de P "__static_attributes__" 426 (.ref 181)), (de P "__dict__" 428 (.ref 184)), (de P "__weakref__" 430 (.ref 185)), (de P "__doc__" 431 .none)] 4) #[])
def o115 (P : Params) : Obj := (.mk (.type "type") none (.cls (.mk "Goal" [(.type "object")] [(.ref 183), (.type "object")] 182 "Goal" true [] [(.ref 211), (.ref 237), (.ref 261), (.ref 287)] false none false)) #[none, none, (some (.str "Goal" 395)), (some (.str "Goal" 403)), (some (.builtin "object.__new__")), (some (.bool true))])
def o116 (P : Params) : Obj := (.mk (.type "getset_descriptor") none (.fields #[(.str "__dict__" 427), (.ref 183), (.builtin "function.__dict__"), (.builtin "function.__dict__#set")]) #[])
def o117 (P : Params) : Obj := (.mk (.type "getset_descriptor") none (.fields #[(.str "__weakref__" 429), (.ref 183), (.builtin "ExceptionGroup.__weakref__"), .none]) #[])
def o118 (P : Params) : Obj := (.mk (.type "super") none (.fields #[(.ref 183), (.ref 183), (.ref 183)]) #[])
def o119 (P : Params) : Obj := (.mk (.type "builtin_function_or_method") none (.fields #[(.builtin "object.__init_subclass__"), (.ref 183)]) #[])
def o120 (P : Params) : Obj := (.mk (.type "tuple") none (.seq #[(.ref 183)] 0) #[])
def o121 (P : Params) : Obj := (.mk (.type "dict") none (.dict #[(de P "__module__" 441 (.str "jughouse.goals" 341)), (de P "__qualname__" 443 (.str "Holds" 442)), (de P "__firstlineno__" 445 (.int 102 444)), (de P "__init__" 454 (.ref 201)), (de P "met_by" 463 (.ref 208)), (de P "__static_attributes__" 466 (.ref 209))] 6) #[])
def o122 (P : Params) : Obj := (.mk .none none (.fields #[(.int 104 0), (.int 4 0), (.ref 200), (.int 110 0), (.int 4 0), (.ref 207)]) #[])
def o123 (P : Params) : Obj := (.mk (.type "code") none (.fields #[(.str "Holds" 436), (.str "Holds" 437), (.str "/claim/cut.py" 438), (.int 102 0), (.int 0 0), (.int 0 0), (.int 0 0), (.int 0 0), (.ref 191), (.bool false), (.int 181 0), (.ref 192), .none, .none, .none, .none, (.int 439 0), (.int 102 0), (.str "/claim/cut.py" 440)]) #[])
def o124 (P : Params) : Obj := (.mk (.type "frame") none .plain #[(some (.ref 193)), (some (.ref 3)), (some (.ref 190)), none, (some (.str "jughouse.goals" 341)), none, (some (.ref 0))])
def o125 (P : Params) : Obj := (.mk (.type "tuple") none (.seq #[(.str "self" 449), (.str "jug" 450), (.str "many" 451)] 0) #[])
def o126 (P : Params) : Obj := (.mk .none none (.func (fu (me 27 0) "__init__" "Holds.__init__" 0 [] .none .none .none .none none .none .none 0)) #[])
def o127 (P : Params) : Obj := (.mk (.type "code") none (.fields #[(.str "__init__" 446), (.str "Holds.__init__" 447), (.str "/claim/cut.py" 448), (.int 104 0), (.int 3 0), (.int 0 0), (.int 0 0), (.int 3 0), (.ref 195), (.bool true), (.int 181 0), (.ref 196), .none, (.ref 197), (.ref 198), (.ref 199), (.int 452 0), (.int 104 0), (.str "/claim/cut.py" 453)]) #[])
def o128 (P : Params) : Obj := (.mk (.type "function") none (.func (fu (me 27 0) "__init__" "Holds.__init__" 3 [] .none .none .none (.str "jughouse.goals" 341) none (.ref 200) .none 0)) #[])
def o129 (P : Params) : Obj := (.mk (.type "tuple") none (.seq #[(.str "self" 458), (.str "house" 459), (.str "held" 460)] 0) #[])
def o130 (P : Params) : Obj := (.mk .none none (.func (fu (me 27 1) "met_by" "Holds.met_by" 0 [] .none .none .none .none none .none .none 0)) #[])
def o131 (P : Params) : Obj := (.mk (.type "code") none (.fields #[(.str "met_by" 455), (.str "Holds.met_by" 456), (.str "/claim/cut.py" 457), (.int 110 0), (.int 3 0), (.int 0 0), (.int 0 0), (.int 3 0), (.ref 202), (.bool true), (.int 181 0), (.ref 203), .none, (.ref 204), (.ref 205), (.ref 206), (.int 461 0), (.int 110 0), (.str "/claim/cut.py" 462)]) #[])
def o132 (P : Params) : Obj := (.mk (.type "function") none (.func (fu (me 27 1) "met_by" "Holds.met_by" 3 [] .none .none .none (.str "jughouse.goals" 341) none (.ref 207) .none 0)) #[])
def o133 (P : Params) : Obj := (.mk (.type "tuple") none (.seq #[(.str "jug" 464), (.str "many" 465)] 0) #[])
def o134 (P : Params) : Obj := (.mk (.type "dict") none (.dict #[(de P "__module__" 441 (.str "jughouse.goals" 341)), (de P "__firstlineno__" 445 (.int 102 444)), (de P "__init__" 454 (.ref 201)), (de P "met_by" 463 (.ref 208)), (de P "__static_attributes__" 466 (.ref 209)), (de P "__doc__" 467 .none)] 2) #[])
def o135 (P : Params) : Obj := (.mk (.type "type") none (.cls (.mk "Holds" [(.ref 183)] [(.ref 211), (.ref 183), (.type "object")] 210 "Holds" true [] [] false none false)) #[(some (.ref 188)), none, (some (.str "Holds" 434)), (some (.str "Holds" 442)), (some (.builtin "object.__new__")), (some (.bool true))])
def o136 (P : Params) : Obj := (.mk (.type "super") none (.fields #[(.ref 211), (.ref 211), (.ref 211)]) #[])
def o137 (P : Params) : Obj := (.mk (.type "builtin_function_or_method") none (.fields #[(.builtin "object.__init_subclass__"), (.ref 211)]) #[])
def o138 (P : Params) : Obj := (.mk (.type "dict") none (.dict #[(de P "__module__" 477 (.str "jughouse.goals" 341)), (de P "__qualname__" 479 (.str "Some" 478)), (de P "__firstlineno__" 481 (.int 113 480)), (de P "__init__" 489 (.ref 227)), (de P "met_by" 498 (.ref 234)), (de P "__static_attributes__" 500 (.ref 235))] 6) #[])
def o139 (P : Params) : Obj := (.mk .none none (.fields #[(.int 115 0), (.int 4 0), (.ref 226), (.int 119 0), (.int 4 0), (.ref 233)]) #[])
def o140 (P : Params) : Obj := (.mk (.type "code") none (.fields #[(.str "Some" 472), (.str "Some" 473), (.str "/claim/cut.py" 474), (.int 113 0), (.int 0 0), (.int 0 0), (.int 0 0), (.int 0 0), (.ref 217), (.bool false), (.int 181 0), (.ref 218), .none, .none, .none, .none, (.int 475 0), (.int 113 0), (.str "/claim/cut.py" 476)]) #[])
def o141 (P : Params) : Obj := (.mk (.type "frame") none .plain #[(some (.ref 219)), (some (.ref 3)), (some (.ref 216)), none, (some (.str "jughouse.goals" 341)), none, (some (.ref 0))])
def o142 (P : Params) : Obj := (.mk (.type "tuple") none (.seq #[(.str "self" 485), (.str "many" 486)] 0) #[])
def o143 (P : Params) : Obj := (.mk .none none (.func (fu (me 28 0) "__init__" "Some.__init__" 0 [] .none .none .none .none none .none .none 0)) #[])
def o144 (P : Params) : Obj := (.mk (.type "code") none (.fields #[(.str "__init__" 482), (.str "Some.__init__" 483), (.str "/claim/cut.py" 484), (.int 115 0), (.int 2 0), (.int 0 0), (.int 0 0), (.int 3 0), (.ref 221), (.bool true), (.int 181 0), (.ref 222), .none, (.ref 223), (.ref 224), (.ref 225), (.int 487 0), (.int 115 0), (.str "/claim/cut.py" 488)]) #[])
def o145 (P : Params) : Obj := (.mk (.type "function") none (.func (fu (me 28 0) "__init__" "Some.__init__" 3 [] .none .none .none (.str "jughouse.goals" 341) none (.ref 226) .none 0)) #[])
def o146 (P : Params) : Obj := (.mk (.type "tuple") none (.seq #[(.str "self" 493), (.str "house" 494), (.str "held" 495)] 0) #[])
def o147 (P : Params) : Obj := (.mk .none none (.func (fu (me 28 1) "met_by" "Some.met_by" 0 [] .none .none .none .none none .none .none 0)) #[])
def o148 (P : Params) : Obj := (.mk (.type "code") none (.fields #[(.str "met_by" 490), (.str "Some.met_by" 491), (.str "/claim/cut.py" 492), (.int 119 0), (.int 3 0), (.int 0 0), (.int 0 0), (.int 3 0), (.ref 228), (.bool true), (.int 181 0), (.ref 229), .none, (.ref 230), (.ref 231), (.ref 232), (.int 496 0), (.int 119 0), (.str "/claim/cut.py" 497)]) #[])
def o149 (P : Params) : Obj := (.mk (.type "function") none (.func (fu (me 28 1) "met_by" "Some.met_by" 3 [] .none .none .none (.str "jughouse.goals" 341) none (.ref 233) .none 0)) #[])
def o150 (P : Params) : Obj := (.mk (.type "tuple") none (.seq #[(.str "many" 499)] 0) #[])
def o151 (P : Params) : Obj := (.mk (.type "dict") none (.dict #[(de P "__module__" 477 (.str "jughouse.goals" 341)), (de P "__firstlineno__" 481 (.int 113 480)), (de P "__init__" 489 (.ref 227)), (de P "met_by" 498 (.ref 234)), (de P "__static_attributes__" 500 (.ref 235)), (de P "__doc__" 501 .none)] 2) #[])
def o152 (P : Params) : Obj := (.mk (.type "type") none (.cls (.mk "Some" [(.ref 183)] [(.ref 237), (.ref 183), (.type "object")] 236 "Some" true [] [] false none false)) #[(some (.ref 214)), none, (some (.str "Some" 470)), (some (.str "Some" 478)), (some (.builtin "object.__new__")), (some (.bool true))])
def o153 (P : Params) : Obj := (.mk (.type "super") none (.fields #[(.ref 237), (.ref 237), (.ref 237)]) #[])
def o154 (P : Params) : Obj := (.mk (.type "builtin_function_or_method") none (.fields #[(.builtin "object.__init_subclass__"), (.ref 237)]) #[])
def o155 (P : Params) : Obj := (.mk (.type "dict") none (.dict #[(de P "__module__" 511 (.str "jughouse.goals" 341)), (de P "__qualname__" 513 (.str "Sum" 512)), (de P "__firstlineno__" 515 (.int 121 514)), (de P "__init__" 524 (.ref 253)), (de P "met_by" 530 (.ref 258)), (de P "__static_attributes__" 533 (.ref 259))] 6) #[])
def o156 (P : Params) : Obj := (.mk .none none (.fields #[(.int 123 0), (.int 4 0), (.ref 252), (.int 128 0), (.int 4 0), (.ref 257)]) #[])
def o157 (P : Params) : Obj := (.mk (.type "code") none (.fields #[(.str "Sum" 506), (.str "Sum" 507), (.str "/claim/cut.py" 508), (.int 121 0), (.int 0 0), (.int 0 0), (.int 0 0), (.int 0 0), (.ref 243), (.bool false), (.int 181 0), (.ref 244), .none, .none, .none, .none, (.int 509 0), (.int 121 0), (.str "/claim/cut.py" 510)]) #[])
def o158 (P : Params) : Obj := (.mk (.type "frame") none .plain #[(some (.ref 245)), (some (.ref 3)), (some (.ref 242)), none, (some (.str "jughouse.goals" 341)), none, (some (.ref 0))])
def o159 (P : Params) : Obj := (.mk (.type "tuple") none (.seq #[(.str "self" 519), (.str "jugs" 520), (.str "many" 521)] 0) #[])
def o160 (P : Params) : Obj := (.mk .none none (.func (fu (me 29 0) "__init__" "Sum.__init__" 0 [] .none .none .none .none none .none .none 0)) #[])
def o161 (P : Params) : Obj := (.mk (.type "code") none (.fields #[(.str "__init__" 516), (.str "Sum.__init__" 517), (.str "/claim/cut.py" 518), (.int 123 0), (.int 3 0), (.int 0 0), (.int 0 0), (.int 3 0), (.ref 247), (.bool true), (.int 181 0), (.ref 248), .none, (.ref 249), (.ref 250), (.ref 251), (.int 522 0), (.int 123 0), (.str "/claim/cut.py" 523)]) #[])
def o162 (P : Params) : Obj := (.mk (.type "function") none (.func (fu (me 29 0) "__init__" "Sum.__init__" 3 [] .none .none .none (.str "jughouse.goals" 341) none (.ref 252) .none 0)) #[])
def o163 (P : Params) : Obj := (.mk .none none (.func (fu (me 29 1) "met_by" "Sum.met_by" 0 [] .none .none .none .none none .none .none 0)) #[])
def o164 (P : Params) : Obj := (.mk (.type "code") none (.fields #[(.str "met_by" 525), (.str "Sum.met_by" 526), (.str "/claim/cut.py" 527), (.int 128 0), (.int 3 0), (.int 0 0), (.int 0 0), (.int 3 0), (.ref 254), (.bool true), (.int 181 0), (.ref 255), .none, .none, .none, (.ref 256), (.int 528 0), (.int 128 0), (.str "/claim/cut.py" 529)]) #[])
def o165 (P : Params) : Obj := (.mk (.type "function") none (.func (fu (me 29 1) "met_by" "Sum.met_by" 3 [] .none .none .none (.str "jughouse.goals" 341) none (.ref 257) .none 0)) #[])
def o166 (P : Params) : Obj := (.mk (.type "tuple") none (.seq #[(.str "jugs" 531), (.str "many" 532)] 0) #[])
def o167 (P : Params) : Obj := (.mk (.type "dict") none (.dict #[(de P "__module__" 511 (.str "jughouse.goals" 341)), (de P "__firstlineno__" 515 (.int 121 514)), (de P "__init__" 524 (.ref 253)), (de P "met_by" 530 (.ref 258)), (de P "__static_attributes__" 533 (.ref 259)), (de P "__doc__" 534 .none)] 2) #[])
def o168 (P : Params) : Obj := (.mk (.type "type") none (.cls (.mk "Sum" [(.ref 183)] [(.ref 261), (.ref 183), (.type "object")] 260 "Sum" true [] [] false none false)) #[(some (.ref 240)), none, (some (.str "Sum" 504)), (some (.str "Sum" 512)), (some (.builtin "object.__new__")), (some (.bool true))])
def o169 (P : Params) : Obj := (.mk (.type "super") none (.fields #[(.ref 261), (.ref 261), (.ref 261)]) #[])
def o170 (P : Params) : Obj := (.mk (.type "builtin_function_or_method") none (.fields #[(.builtin "object.__init_subclass__"), (.ref 261)]) #[])
def o171 (P : Params) : Obj := (.mk (.type "dict") none (.dict #[(de P "__module__" 544 (.str "jughouse.goals" 341)), (de P "__qualname__" 546 (.str "Whole" 545)), (de P "__firstlineno__" 548 (.int 132 547)), (de P "__init__" 556 (.ref 277)), (de P "met_by" 565 (.ref 284)), (de P "__static_attributes__" 567 (.ref 285))] 6) #[])
def o172 (P : Params) : Obj := (.mk .none none (.fields #[(.int 134 0), (.int 4 0), (.ref 276), (.int 137 0), (.int 4 0), (.ref 283)]) #[])
def o173 (P : Params) : Obj := (.mk (.type "code") none (.fields #[(.str "Whole" 539), (.str "Whole" 540), (.str "/claim/cut.py" 541), (.int 132 0), (.int 0 0), (.int 0 0), (.int 0 0), (.int 0 0), (.ref 267), (.bool false), (.int 181 0), (.ref 268), .none, .none, .none, .none, (.int 542 0), (.int 132 0), (.str "/claim/cut.py" 543)]) #[])
def o174 (P : Params) : Obj := (.mk (.type "frame") none .plain #[(some (.ref 269)), (some (.ref 3)), (some (.ref 266)), none, (some (.str "jughouse.goals" 341)), none, (some (.ref 0))])
def o175 (P : Params) : Obj := (.mk (.type "tuple") none (.seq #[(.str "self" 552), (.str "state" 553)] 0) #[])
def o176 (P : Params) : Obj := (.mk .none none (.func (fu (me 30 0) "__init__" "Whole.__init__" 0 [] .none .none .none .none none .none .none 0)) #[])
def o177 (P : Params) : Obj := (.mk (.type "code") none (.fields #[(.str "__init__" 549), (.str "Whole.__init__" 550), (.str "/claim/cut.py" 551), (.int 134 0), (.int 2 0), (.int 0 0), (.int 0 0), (.int 3 0), (.ref 271), (.bool true), (.int 181 0), (.ref 272), .none, (.ref 273), (.ref 274), (.ref 275), (.int 554 0), (.int 134 0), (.str "/claim/cut.py" 555)]) #[])
def o178 (P : Params) : Obj := (.mk (.type "function") none (.func (fu (me 30 0) "__init__" "Whole.__init__" 3 [] .none .none .none (.str "jughouse.goals" 341) none (.ref 276) .none 0)) #[])
def o179 (P : Params) : Obj := (.mk (.type "tuple") none (.seq #[(.str "self" 560), (.str "house" 561), (.str "held" 562)] 0) #[])
def o180 (P : Params) : Obj := (.mk .none none (.func (fu (me 30 1) "met_by" "Whole.met_by" 0 [] .none .none .none .none none .none .none 0)) #[])
def o181 (P : Params) : Obj := (.mk (.type "code") none (.fields #[(.str "met_by" 557), (.str "Whole.met_by" 558), (.str "/claim/cut.py" 559), (.int 137 0), (.int 3 0), (.int 0 0), (.int 0 0), (.int 3 0), (.ref 278), (.bool true), (.int 181 0), (.ref 279), .none, (.ref 280), (.ref 281), (.ref 282), (.int 563 0), (.int 137 0), (.str "/claim/cut.py" 564)]) #[])
def o182 (P : Params) : Obj := (.mk (.type "function") none (.func (fu (me 30 1) "met_by" "Whole.met_by" 3 [] .none .none .none (.str "jughouse.goals" 341) none (.ref 283) .none 0)) #[])
def o183 (P : Params) : Obj := (.mk (.type "tuple") none (.seq #[(.str "state" 566)] 0) #[])
def o184 (P : Params) : Obj := (.mk (.type "dict") none (.dict #[(de P "__module__" 544 (.str "jughouse.goals" 341)), (de P "__firstlineno__" 548 (.int 132 547)), (de P "__init__" 556 (.ref 277)), (de P "met_by" 565 (.ref 284)), (de P "__static_attributes__" 567 (.ref 285)), (de P "__doc__" 568 .none)] 2) #[])
def o185 (P : Params) : Obj := (.mk (.type "type") none (.cls (.mk "Whole" [(.ref 183)] [(.ref 287), (.ref 183), (.type "object")] 286 "Whole" true [] [] false none false)) #[(some (.ref 264)), none, (some (.str "Whole" 537)), (some (.str "Whole" 545)), (some (.builtin "object.__new__")), (some (.bool true))])
def o186 (P : Params) : Obj := (.mk (.type "super") none (.fields #[(.ref 287), (.ref 287), (.ref 287)]) #[])
def o187 (P : Params) : Obj := (.mk (.type "builtin_function_or_method") none (.fields #[(.builtin "object.__init_subclass__"), (.ref 287)]) #[])
def o188 (P : Params) : Obj := (.mk (.type "tuple") none (.seq #[(.str "goal" 574)] 0) #[])
def o189 (P : Params) : Obj := (.mk .none none (.func (fu (st 31) "check_goal" "check_goal" 0 [] .none .none .none .none none .none .none 0)) #[])
def o190 (P : Params) : Obj := (.mk (.type "code") none (.fields #[(.str "check_goal" 571), (.str "check_goal" 572), (.str "/claim/cut.py" 573), (.int 140 0), (.int 1 0), (.int 0 0), (.int 0 0), (.int 3 0), (.ref 290), (.bool true), (.int 181 0), (.ref 291), .none, (.ref 292), (.ref 293), (.ref 294), (.int 575 0), (.int 140 0), (.str "/claim/cut.py" 576)]) #[])
def o191 (P : Params) : Obj := (.mk (.type "function") none (.func (fu (st 31) "check_goal" "check_goal" 3 [] .none .none .none (.str "jughouse.goals" 341) none (.ref 295) .none 0)) #[])
def o192 (P : Params) : Obj := (.mk (.type "dict") none (.dict #[(de P "__module__" 587 (.str "jughouse.fewest" 578)), (de P "__qualname__" 589 (.str "Answer" 588)), (de P "__firstlineno__" 591 (.int 144 590)), (de P "__static_attributes__" 592 (.ref 304))] 4) #[])
def o193 (P : Params) : Obj := (.mk (.type "code") none (.fields #[(.str "Answer" 582), (.str "Answer" 583), (.str "/claim/cut.py" 584), (.int 144 0), (.int 0 0), (.int 0 0), (.int 0 0), (.int 0 0), (.ref 300), (.bool false), (.int 181 0), (.ref 301), .none, .none, .none, .none, (.int 585 0), (.int 144 0), (.str "/claim/cut.py" 586)]) #[])
def o194 (P : Params) : Obj := (.mk (.type "frame") none .plain #[(some (.ref 302)), (some (.ref 3)), (some (.ref 299)), none, (some (.str "jughouse.fewest" 578)), none, (some (.ref 0))])
def o195 (P : Params) : Obj := (.mk (.type "dict") none (.dict #[(de P "__module__" 587 (.str "jughouse.fewest" 578)), (de P "__firstlineno__" 591 (.int 144 590)), (de P "__static_attributes__" 592 (.ref 304)), (de P "__dict__" 594 (.ref 307)), (de P "__weakref__" 596 (.ref 308)), (de P "__doc__" 597 .none)] 4) #[])
def o196 (P : Params) : Obj := (.mk (.type "type") none (.cls (.mk "Answer" [(.type "object")] [(.ref 306), (.type "object")] 305 "Answer" true [] [(.ref 325), (.ref 344)] false none false)) #[none, none, (some (.str "Answer" 580)), (some (.str "Answer" 588)), (some (.builtin "object.__new__")), (some (.bool true))])
def o197 (P : Params) : Obj := (.mk (.type "getset_descriptor") none (.fields #[(.str "__dict__" 593), (.ref 306), (.builtin "function.__dict__"), (.builtin "function.__dict__#set")]) #[])
def o198 (P : Params) : Obj := (.mk (.type "getset_descriptor") none (.fields #[(.str "__weakref__" 595), (.ref 306), (.builtin "ExceptionGroup.__weakref__"), .none]) #[])
def o199 (P : Params) : Obj := (.mk (.type "super") none (.fields #[(.ref 306), (.ref 306), (.ref 306)]) #[])
def o200 (P : Params) : Obj := (.mk (.type "builtin_function_or_method") none (.fields #[(.builtin "object.__init_subclass__"), (.ref 306)]) #[])
def o201 (P : Params) : Obj := (.mk (.type "tuple") none (.seq #[(.ref 306)] 0) #[])
def o202 (P : Params) : Obj := (.mk (.type "dict") none (.dict #[(de P "__module__" 607 (.str "jughouse.fewest" 578)), (de P "__qualname__" 609 (.str "Poured" 608)), (de P "__firstlineno__" 611 (.int 146 610)), (de P "__init__" 617 (.ref 322)), (de P "__static_attributes__" 620 (.ref 323))] 5) #[])
def o203 (P : Params) : Obj := (.mk .none none (.fields #[(.int 148 0), (.int 4 0), (.ref 321)]) #[])
def o204 (P : Params) : Obj := (.mk (.type "code") none (.fields #[(.str "Poured" 602), (.str "Poured" 603), (.str "/claim/cut.py" 604), (.int 146 0), (.int 0 0), (.int 0 0), (.int 0 0), (.int 0 0), (.ref 314), (.bool false), (.int 181 0), (.ref 315), .none, .none, .none, .none, (.int 605 0), (.int 146 0), (.str "/claim/cut.py" 606)]) #[])
def o205 (P : Params) : Obj := (.mk (.type "frame") none .plain #[(some (.ref 316)), (some (.ref 3)), (some (.ref 313)), none, (some (.str "jughouse.fewest" 578)), none, (some (.ref 0))])
def o206 (P : Params) : Obj := (.mk .none none (.func (fu (me 34 0) "__init__" "Poured.__init__" 0 [] .none .none .none .none none .none .none 0)) #[])
def o207 (P : Params) : Obj := (.mk (.type "code") none (.fields #[(.str "__init__" 612), (.str "Poured.__init__" 613), (.str "/claim/cut.py" 614), (.int 148 0), (.int 3 0), (.int 0 0), (.int 0 0), (.int 3 0), (.ref 318), (.bool true), (.int 181 0), (.ref 319), .none, .none, .none, (.ref 320), (.int 615 0), (.int 148 0), (.str "/claim/cut.py" 616)]) #[])
def o208 (P : Params) : Obj := (.mk (.type "function") none (.func (fu (me 34 0) "__init__" "Poured.__init__" 3 [] .none .none .none (.str "jughouse.fewest" 578) none (.ref 321) .none 0)) #[])
def o209 (P : Params) : Obj := (.mk (.type "tuple") none (.seq #[(.str "heights" 618), (.str "pours" 619)] 0) #[])
def o210 (P : Params) : Obj := (.mk (.type "dict") none (.dict #[(de P "__module__" 607 (.str "jughouse.fewest" 578)), (de P "__firstlineno__" 611 (.int 146 610)), (de P "__init__" 617 (.ref 322)), (de P "__static_attributes__" 620 (.ref 323)), (de P "__doc__" 621 .none)] 2) #[])
def o211 (P : Params) : Obj := (.mk (.type "type") none (.cls (.mk "Poured" [(.ref 306)] [(.ref 325), (.ref 306), (.type "object")] 324 "Poured" true [] [] false none false)) #[(some (.ref 311)), none, (some (.str "Poured" 600)), (some (.str "Poured" 608)), (some (.builtin "object.__new__")), (some (.bool true))])
def o212 (P : Params) : Obj := (.mk (.type "super") none (.fields #[(.ref 325), (.ref 325), (.ref 325)]) #[])
def o213 (P : Params) : Obj := (.mk (.type "builtin_function_or_method") none (.fields #[(.builtin "object.__init_subclass__"), (.ref 325)]) #[])
def o214 (P : Params) : Obj := (.mk (.type "dict") none (.dict #[(de P "__module__" 631 (.str "jughouse.fewest" 578)), (de P "__qualname__" 633 (.str "Barred" 632)), (de P "__firstlineno__" 635 (.int 151 634)), (de P "__init__" 643 (.ref 341)), (de P "__static_attributes__" 645 (.ref 342))] 5) #[])
def o215 (P : Params) : Obj := (.mk .none none (.fields #[(.int 153 0), (.int 4 0), (.ref 340)]) #[])
def o216 (P : Params) : Obj := (.mk (.type "code") none (.fields #[(.str "Barred" 626), (.str "Barred" 627), (.str "/claim/cut.py" 628), (.int 151 0), (.int 0 0), (.int 0 0), (.int 0 0), (.int 0 0), (.ref 331), (.bool false), (.int 181 0), (.ref 332), .none, .none, .none, .none, (.int 629 0), (.int 151 0), (.str "/claim/cut.py" 630)]) #[])
def o217 (P : Params) : Obj := (.mk (.type "frame") none .plain #[(some (.ref 333)), (some (.ref 3)), (some (.ref 330)), none, (some (.str "jughouse.fewest" 578)), none, (some (.ref 0))])
def o218 (P : Params) : Obj := (.mk (.type "tuple") none (.seq #[(.str "self" 639), (.str "among" 640)] 0) #[])
def o219 (P : Params) : Obj := (.mk .none none (.func (fu (me 35 0) "__init__" "Barred.__init__" 0 [] .none .none .none .none none .none .none 0)) #[])
def o220 (P : Params) : Obj := (.mk (.type "code") none (.fields #[(.str "__init__" 636), (.str "Barred.__init__" 637), (.str "/claim/cut.py" 638), (.int 153 0), (.int 2 0), (.int 0 0), (.int 0 0), (.int 3 0), (.ref 335), (.bool true), (.int 181 0), (.ref 336), .none, (.ref 337), (.ref 338), (.ref 339), (.int 641 0), (.int 153 0), (.str "/claim/cut.py" 642)]) #[])
def o221 (P : Params) : Obj := (.mk (.type "function") none (.func (fu (me 35 0) "__init__" "Barred.__init__" 3 [] .none .none .none (.str "jughouse.fewest" 578) none (.ref 340) .none 0)) #[])
def o222 (P : Params) : Obj := (.mk (.type "tuple") none (.seq #[(.str "among" 644)] 0) #[])
def o223 (P : Params) : Obj := (.mk (.type "dict") none (.dict #[(de P "__module__" 631 (.str "jughouse.fewest" 578)), (de P "__firstlineno__" 635 (.int 151 634)), (de P "__init__" 643 (.ref 341)), (de P "__static_attributes__" 645 (.ref 342)), (de P "__doc__" 646 .none)] 2) #[])
def o224 (P : Params) : Obj := (.mk (.type "type") none (.cls (.mk "Barred" [(.ref 306)] [(.ref 344), (.ref 306), (.type "object")] 343 "Barred" true [] [] false none false)) #[(some (.ref 328)), none, (some (.str "Barred" 624)), (some (.str "Barred" 632)), (some (.builtin "object.__new__")), (some (.bool true))])
def o225 (P : Params) : Obj := (.mk (.type "super") none (.fields #[(.ref 344), (.ref 344), (.ref 344)]) #[])
def o226 (P : Params) : Obj := (.mk (.type "builtin_function_or_method") none (.fields #[(.builtin "object.__init_subclass__"), (.ref 344)]) #[])
def o227 (P : Params) : Obj := (.mk (.type "tuple") none (.seq #[(.str "house" 652), (.str "ways" 653), (.str "goal" 654), (.str "state" 655)] 0) #[])
def o228 (P : Params) : Obj := (.mk .none none (.func (fu (st 36) "nearest" "nearest" 0 [] .none .none .none .none none .none .none 0)) #[])
def o229 (P : Params) : Obj := (.mk (.type "code") none (.fields #[(.str "nearest" 649), (.str "nearest" 650), (.str "/claim/cut.py" 651), (.int 155 0), (.int 3 0), (.int 0 0), (.int 0 0), (.int 3 0), (.ref 347), (.bool true), (.int 181 0), (.ref 348), .none, (.ref 349), (.ref 350), (.ref 351), (.int 656 0), (.int 155 0), (.str "/claim/cut.py" 657)]) #[])
def o230 (P : Params) : Obj := (.mk (.type "function") none (.func (fu (st 36) "nearest" "nearest" 3 [] .none .none .none (.str "jughouse.fewest" 578) none (.ref 352) .none 0)) #[])
def o231 (P : Params) : Obj := (.mk (.type "tuple") none (.seq #[(.str "ways" 662), (.str "state" 663), (.str "back" 664), (.str "way" 665)] 0) #[])
def o232 (P : Params) : Obj := (.mk .none none (.func (fu (st 37) "moves_to" "moves_to" 0 [] .none .none .none .none none .none .none 0)) #[])
def o233 (P : Params) : Obj := (.mk (.type "code") none (.fields #[(.str "moves_to" 659), (.str "moves_to" 660), (.str "/claim/cut.py" 661), (.int 160 0), (.int 2 0), (.int 0 0), (.int 0 0), (.int 3 0), (.ref 354), (.bool true), (.int 181 0), (.ref 355), .none, (.ref 356), (.ref 357), (.ref 358), (.int 666 0), (.int 160 0), (.str "/claim/cut.py" 667)]) #[])
def o234 (P : Params) : Obj := (.mk (.type "function") none (.func (fu (st 37) "moves_to" "moves_to" 3 [] .none .none .none (.str "jughouse.fewest" 578) none (.ref 359) .none 0)) #[])
def o235 (P : Params) : Obj := (.mk (.type "tuple") none (.seq #[(.str "ways" 672), (.str "heights" 673), (.str "state" 674), (.str "way" 675)] 0) #[])
def o236 (P : Params) : Obj := (.mk .none none (.func (fu (st 38) "heights_in" "heights_in" 0 [] .none .none .none .none none .none .none 0)) #[])
def o237 (P : Params) : Obj := (.mk (.type "code") none (.fields #[(.str "heights_in" 669), (.str "heights_in" 670), (.str "/claim/cut.py" 671), (.int 167 0), (.int 1 0), (.int 0 0), (.int 0 0), (.int 3 0), (.ref 361), (.bool true), (.int 181 0), (.ref 362), .none, (.ref 363), (.ref 364), (.ref 365), (.int 676 0), (.int 167 0), (.str "/claim/cut.py" 677)]) #[])
def o238 (P : Params) : Obj := (.mk (.type "function") none (.func (fu (st 38) "heights_in" "heights_in" 3 [] .none .none .none (.str "jughouse.fewest" 578) none (.ref 366) .none 0)) #[])
def o239 (P : Params) : Obj := (.mk (.type "tuple") none (.seq #[(.str "house" 682), (.str "state" 683), (.str "goal" 684), (.str "ways" 685), (.str "last" 686)] 0) #[])
def o240 (P : Params) : Obj := (.mk .none none (.func (fu (st 39) "fewest" "fewest" 0 [] .none .none .none .none none .none .none 0)) #[])
def o241 (P : Params) : Obj := (.mk (.type "code") none (.fields #[(.str "fewest" 679), (.str "fewest" 680), (.str "/claim/cut.py" 681), (.int 173 0), (.int 3 0), (.int 0 0), (.int 0 0), (.int 3 0), (.ref 368), (.bool true), (.int 181 0), (.ref 369), .none, (.ref 370), (.ref 371), (.ref 372), (.int 687 0), (.int 173 0), (.str "/claim/cut.py" 688)]) #[])
def o242 (P : Params) : Obj := (.mk (.type "function") none (.func (fu (st 39) "fewest" "fewest" 3 [] .none .none .none (.str "jughouse.fewest" 578) none (.ref 373) .none 0)) #[])
def o243 (P : Params) : Obj := (.mk (.type "tuple") none (.seq #[(.str "jug" 695)] 0) #[])
def o244 (P : Params) : Obj := (.mk .none none (.func (fu (st 41) "check_jug" "check_jug" 0 [] .none .none .none .none none .none .none 0)) #[])
def o245 (P : Params) : Obj := (.mk (.type "code") none (.fields #[(.str "check_jug" 692), (.str "check_jug" 693), (.str "/claim/cut.py" 694), (.int 182 0), (.int 1 0), (.int 0 0), (.int 0 0), (.int 3 0), (.ref 375), (.bool true), (.int 181 0), (.ref 376), .none, (.ref 377), (.ref 378), (.ref 379), (.int 696 0), (.int 182 0), (.str "/claim/cut.py" 697)]) #[])
def o246 (P : Params) : Obj := (.mk (.type "function") none (.func (fu (st 41) "check_jug" "check_jug" 3 [] .none .none .none (.str "jughouse.moves" 690) none (.ref 380) .none 0)) #[])
def o247 (P : Params) : Obj := (.mk (.type "tuple") none (.seq #[(.str "house" 703), (.str "jug" 704)] 0) #[])
def o248 (P : Params) : Obj := (.mk .none none (.func (fu (st 43) "check_house_has" "check_house_has" 0 [] .none .none .none .none none .none .none 0)) #[])
def o249 (P : Params) : Obj := (.mk (.type "code") none (.fields #[(.str "check_house_has" 700), (.str "check_house_has" 701), (.str "/claim/cut.py" 702), (.int 186 0), (.int 2 0), (.int 0 0), (.int 0 0), (.int 3 0), (.ref 382), (.bool true), (.int 181 0), (.ref 383), .none, (.ref 384), (.ref 385), (.ref 386), (.int 705 0), (.int 186 0), (.str "/claim/cut.py" 706)]) #[])
def o250 (P : Params) : Obj := (.mk (.type "function") none (.func (fu (st 43) "check_house_has" "check_house_has" 3 [] .none .none .none (.str "jughouse.moves" 690) none (.ref 387) .none 0)) #[])
def o251 (P : Params) : Obj := (.mk (.type "tuple") none (.seq #[(.str "house" 712), (.str "jug" 713)] 0) #[])
def o252 (P : Params) : Obj := (.mk .none none (.func (fu (st 45) "check_house_can_tap" "check_house_can_tap" 0 [] .none .none .none .none none .none .none 0)) #[])
def o253 (P : Params) : Obj := (.mk (.type "code") none (.fields #[(.str "check_house_can_tap" 709), (.str "check_house_can_tap" 710), (.str "/claim/cut.py" 711), (.int 190 0), (.int 2 0), (.int 0 0), (.int 0 0), (.int 3 0), (.ref 389), (.bool true), (.int 181 0), (.ref 390), .none, (.ref 391), (.ref 392), (.ref 393), (.int 714 0), (.int 190 0), (.str "/claim/cut.py" 715)]) #[])
def o254 (P : Params) : Obj := (.mk (.type "function") none (.func (fu (st 45) "check_house_can_tap" "check_house_can_tap" 3 [] .none .none .none (.str "jughouse.moves" 690) none (.ref 394) .none 0)) #[])
def o255 (P : Params) : Obj := (.mk (.type "tuple") none (.seq #[(.str "held" 720), (.str "jug" 721), (.str "many" 722), (.str "behind" 723)] 0) #[])
def o256 (P : Params) : Obj := (.mk .none none (.func (fu (st 46) "with_amount" "with_amount" 0 [] .none .none .none .none none .none .none 0)) #[])
def o257 (P : Params) : Obj := (.mk (.type "code") none (.fields #[(.str "with_amount" 717), (.str "with_amount" 718), (.str "/claim/cut.py" 719), (.int 194 0), (.int 3 0), (.int 0 0), (.int 0 0), (.int 3 0), (.ref 396), (.bool true), (.int 181 0), (.ref 397), .none, (.ref 398), (.ref 399), (.ref 400), (.int 724 0), (.int 194 0), (.str "/claim/cut.py" 725)]) #[])
def o258 (P : Params) : Obj := (.mk (.type "function") none (.func (fu (st 46) "with_amount" "with_amount" 3 [] .none .none .none (.str "jughouse.moves" 690) none (.ref 401) .none 0)) #[])
def o259 (P : Params) : Obj := (.mk (.type "dict") none (.dict #[(de P "__module__" 734 (.str "jughouse.moves" 690)), (de P "__qualname__" 736 (.str "Move" 735)), (de P "__firstlineno__" 738 (.int 198 737)), (de P "done" 748 (.ref 416)), (de P "held_behind" 757 (.ref 423)), (de P "__static_attributes__" 758 (.ref 424))] 6) #[])
def o260 (P : Params) : Obj := (.mk .none none (.fields #[(.int 200 0), (.int 4 0), (.ref 415), (.int 204 0), (.int 4 0), (.ref 422)]) #[])
def o261 (P : Params) : Obj := (.mk (.type "code") none (.fields #[(.str "Move" 729), (.str "Move" 730), (.str "/claim/cut.py" 731), (.int 198 0), (.int 0 0), (.int 0 0), (.int 0 0), (.int 0 0), (.ref 406), (.bool false), (.int 181 0), (.ref 407), .none, .none, .none, .none, (.int 732 0), (.int 198 0), (.str "/claim/cut.py" 733)]) #[])
def o262 (P : Params) : Obj := (.mk (.type "frame") none .plain #[(some (.ref 408)), (some (.ref 3)), (some (.ref 405)), none, (some (.str "jughouse.moves" 690)), none, (some (.ref 0))])
def o263 (P : Params) : Obj := (.mk (.type "tuple") none (.seq #[(.str "self" 742), (.str "house" 743), (.str "state" 744), (.str "held" 745)] 0) #[])
def o264 (P : Params) : Obj := (.mk .none none (.func (fu (me 47 0) "done" "Move.done" 0 [] .none .none .none .none none .none .none 0)) #[])
def o265 (P : Params) : Obj := (.mk (.type "code") none (.fields #[(.str "done" 739), (.str "Move.done" 740), (.str "/claim/cut.py" 741), (.int 200 0), (.int 3 0), (.int 0 0), (.int 0 0), (.int 3 0), (.ref 410), (.bool true), (.int 181 0), (.ref 411), .none, (.ref 412), (.ref 413), (.ref 414), (.int 746 0), (.int 200 0), (.str "/claim/cut.py" 747)]) #[])
def o266 (P : Params) : Obj := (.mk (.type "function") none (.func (fu (me 47 0) "done" "Move.done" 3 [] .none .none .none (.str "jughouse.moves" 690) none (.ref 415) .none 0)) #[])
def o267 (P : Params) : Obj := (.mk (.type "tuple") none (.seq #[(.str "self" 752), (.str "house" 753), (.str "held" 754)] 0) #[])
def o268 (P : Params) : Obj := (.mk .none none (.func (fu (me 47 1) "held_behind" "Move.held_behind" 0 [] .none .none .none .none none .none .none 0)) #[])
def o269 (P : Params) : Obj := (.mk (.type "code") none (.fields #[(.str "held_behind" 749), (.str "Move.held_behind" 750), (.str "/claim/cut.py" 751), (.int 204 0), (.int 3 0), (.int 0 0), (.int 0 0), (.int 3 0), (.ref 417), (.bool true), (.int 181 0), (.ref 418), .none, (.ref 419), (.ref 420), (.ref 421), (.int 755 0), (.int 204 0), (.str "/claim/cut.py" 756)]) #[])
def o270 (P : Params) : Obj := (.mk (.type "function") none (.func (fu (me 47 1) "held_behind" "Move.held_behind" 3 [] .none .none .none (.str "jughouse.moves" 690) none (.ref 422) .none 0)) #[])
def o271 (P : Params) : Obj := (.mk (.type "dict") none (.dict #[(de P "__module__" 734 (.str "jughouse.moves" 690)), (de P "__firstlineno__" 738 (.int 198 737)), (de P "done" 748 (.ref 416)), (de P "held_behind" 757 (.ref 423)), (de P "__static_attributes__" 758 (.ref 424)), (de P "__dict__" 760 (.ref 427)), (de P "__weakref__" 762 (.ref 428)), (de P "__doc__" 763 .none)] 4) #[])
def o272 (P : Params) : Obj := (.mk (.type "type") none (.cls (.mk "Move" [(.type "object")] [(.ref 426), (.type "object")] 425 "Move" true [] [(.ref 454), (.ref 480), (.ref 506)] false none false)) #[none, none, (some (.str "Move" 727)), (some (.str "Move" 735)), (some (.builtin "object.__new__")), (some (.bool true))])
def o273 (P : Params) : Obj := (.mk (.type "getset_descriptor") none (.fields #[(.str "__dict__" 759), (.ref 426), (.builtin "function.__dict__"), (.builtin "function.__dict__#set")]) #[])
def o274 (P : Params) : Obj := (.mk (.type "getset_descriptor") none (.fields #[(.str "__weakref__" 761), (.ref 426), (.builtin "ExceptionGroup.__weakref__"), .none]) #[])
def o275 (P : Params) : Obj := (.mk (.type "super") none (.fields #[(.ref 426), (.ref 426), (.ref 426)]) #[])
def o276 (P : Params) : Obj := (.mk (.type "builtin_function_or_method") none (.fields #[(.builtin "object.__init_subclass__"), (.ref 426)]) #[])
def o277 (P : Params) : Obj := (.mk (.type "tuple") none (.seq #[(.ref 426)] 0) #[])
def o278 (P : Params) : Obj := (.mk (.type "dict") none (.dict #[(de P "__module__" 773 (.str "jughouse.moves" 690)), (de P "__qualname__" 775 (.str "Pour" 774)), (de P "__firstlineno__" 777 (.int 206 776)), (de P "__init__" 786 (.ref 444)), (de P "held_behind" 798 (.ref 451)), (de P "__static_attributes__" 801 (.ref 452))] 6) #[])
def o279 (P : Params) : Obj := (.mk .none none (.fields #[(.int 208 0), (.int 4 0), (.ref 443), (.int 216 0), (.int 4 0), (.ref 450)]) #[])
def o280 (P : Params) : Obj := (.mk (.type "code") none (.fields #[(.str "Pour" 768), (.str "Pour" 769), (.str "/claim/cut.py" 770), (.int 206 0), (.int 0 0), (.int 0 0), (.int 0 0), (.int 0 0), (.ref 434), (.bool false), (.int 181 0), (.ref 435), .none, .none, .none, .none, (.int 771 0), (.int 206 0), (.str "/claim/cut.py" 772)]) #[])
def o281 (P : Params) : Obj := (.mk (.type "frame") none .plain #[(some (.ref 436)), (some (.ref 3)), (some (.ref 433)), none, (some (.str "jughouse.moves" 690)), none, (some (.ref 0))])
def o282 (P : Params) : Obj := (.mk (.type "tuple") none (.seq #[(.str "self" 781), (.str "one" 782), (.str "other" 783)] 0) #[])
def o283 (P : Params) : Obj := (.mk .none none (.func (fu (me 48 0) "__init__" "Pour.__init__" 0 [] .none .none .none .none none .none .none 0)) #[])
def o284 (P : Params) : Obj := (.mk (.type "code") none (.fields #[(.str "__init__" 778), (.str "Pour.__init__" 779), (.str "/claim/cut.py" 780), (.int 208 0), (.int 3 0), (.int 0 0), (.int 0 0), (.int 3 0), (.ref 438), (.bool true), (.int 181 0), (.ref 439), .none, (.ref 440), (.ref 441), (.ref 442), (.int 784 0), (.int 208 0), (.str "/claim/cut.py" 785)]) #[])
def o285 (P : Params) : Obj := (.mk (.type "function") none (.func (fu (me 48 0) "__init__" "Pour.__init__" 3 [] .none .none .none (.str "jughouse.moves" 690) none (.ref 443) .none 0)) #[])
def o286 (P : Params) : Obj := (.mk (.type "tuple") none (.seq #[(.str "self" 790), (.str "house" 791), (.str "held" 792), (.str "room" 793), (.str "many" 794), (.str "less" 795)] 0) #[])
def o287 (P : Params) : Obj := (.mk .none none (.func (fu (me 48 1) "held_behind" "Pour.held_behind" 0 [] .none .none .none .none none .none .none 0)) #[])
def o288 (P : Params) : Obj := (.mk (.type "code") none (.fields #[(.str "held_behind" 787), (.str "Pour.held_behind" 788), (.str "/claim/cut.py" 789), (.int 216 0), (.int 3 0), (.int 0 0), (.int 0 0), (.int 3 0), (.ref 445), (.bool true), (.int 181 0), (.ref 446), .none, (.ref 447), (.ref 448), (.ref 449), (.int 796 0), (.int 216 0), (.str "/claim/cut.py" 797)]) #[])
def o289 (P : Params) : Obj := (.mk (.type "function") none (.func (fu (me 48 1) "held_behind" "Pour.held_behind" 3 [] .none .none .none (.str "jughouse.moves" 690) none (.ref 450) .none 0)) #[])
def o290 (P : Params) : Obj := (.mk (.type "tuple") none (.seq #[(.str "one" 799), (.str "other" 800)] 0) #[])
def o291 (P : Params) : Obj := (.mk (.type "dict") none (.dict #[(de P "__module__" 773 (.str "jughouse.moves" 690)), (de P "__firstlineno__" 777 (.int 206 776)), (de P "__init__" 786 (.ref 444)), (de P "held_behind" 798 (.ref 451)), (de P "__static_attributes__" 801 (.ref 452)), (de P "__doc__" 802 .none)] 2) #[])
def o292 (P : Params) : Obj := (.mk (.type "type") none (.cls (.mk "Pour" [(.ref 426)] [(.ref 454), (.ref 426), (.type "object")] 453 "Pour" true [] [] false none false)) #[(some (.ref 431)), none, (some (.str "Pour" 766)), (some (.str "Pour" 774)), (some (.builtin "object.__new__")), (some (.bool true))])
def o293 (P : Params) : Obj := (.mk (.type "super") none (.fields #[(.ref 454), (.ref 454), (.ref 454)]) #[])
def o294 (P : Params) : Obj := (.mk (.type "builtin_function_or_method") none (.fields #[(.builtin "object.__init_subclass__"), (.ref 454)]) #[])
def o295 (P : Params) : Obj := (.mk (.type "dict") none (.dict #[(de P "__module__" 812 (.str "jughouse.moves" 690)), (de P "__qualname__" 814 (.str "Fill" 813)), (de P "__firstlineno__" 816 (.int 223 815)), (de P "__init__" 824 (.ref 470)), (de P "held_behind" 833 (.ref 477)), (de P "__static_attributes__" 835 (.ref 478))] 6) #[])
def o296 (P : Params) : Obj := (.mk .none none (.fields #[(.int 225 0), (.int 4 0), (.ref 469), (.int 229 0), (.int 4 0), (.ref 476)]) #[])
def o297 (P : Params) : Obj := (.mk (.type "code") none (.fields #[(.str "Fill" 807), (.str "Fill" 808), (.str "/claim/cut.py" 809), (.int 223 0), (.int 0 0), (.int 0 0), (.int 0 0), (.int 0 0), (.ref 460), (.bool false), (.int 181 0), (.ref 461), .none, .none, .none, .none, (.int 810 0), (.int 223 0), (.str "/claim/cut.py" 811)]) #[])
def o298 (P : Params) : Obj := (.mk (.type "frame") none .plain #[(some (.ref 462)), (some (.ref 3)), (some (.ref 459)), none, (some (.str "jughouse.moves" 690)), none, (some (.ref 0))])
def o299 (P : Params) : Obj := (.mk (.type "tuple") none (.seq #[(.str "self" 820), (.str "jug" 821)] 0) #[])
def o300 (P : Params) : Obj := (.mk .none none (.func (fu (me 49 0) "__init__" "Fill.__init__" 0 [] .none .none .none .none none .none .none 0)) #[])
def o301 (P : Params) : Obj := (.mk (.type "code") none (.fields #[(.str "__init__" 817), (.str "Fill.__init__" 818), (.str "/claim/cut.py" 819), (.int 225 0), (.int 2 0), (.int 0 0), (.int 0 0), (.int 3 0), (.ref 464), (.bool true), (.int 181 0), (.ref 465), .none, (.ref 466), (.ref 467), (.ref 468), (.int 822 0), (.int 225 0), (.str "/claim/cut.py" 823)]) #[])
def o302 (P : Params) : Obj := (.mk (.type "function") none (.func (fu (me 49 0) "__init__" "Fill.__init__" 3 [] .none .none .none (.str "jughouse.moves" 690) none (.ref 469) .none 0)) #[])
def o303 (P : Params) : Obj := (.mk (.type "tuple") none (.seq #[(.str "self" 828), (.str "house" 829), (.str "held" 830)] 0) #[])
def o304 (P : Params) : Obj := (.mk .none none (.func (fu (me 49 1) "held_behind" "Fill.held_behind" 0 [] .none .none .none .none none .none .none 0)) #[])
def o305 (P : Params) : Obj := (.mk (.type "code") none (.fields #[(.str "held_behind" 825), (.str "Fill.held_behind" 826), (.str "/claim/cut.py" 827), (.int 229 0), (.int 3 0), (.int 0 0), (.int 0 0), (.int 3 0), (.ref 471), (.bool true), (.int 181 0), (.ref 472), .none, (.ref 473), (.ref 474), (.ref 475), (.int 831 0), (.int 229 0), (.str "/claim/cut.py" 832)]) #[])
def o306 (P : Params) : Obj := (.mk (.type "function") none (.func (fu (me 49 1) "held_behind" "Fill.held_behind" 3 [] .none .none .none (.str "jughouse.moves" 690) none (.ref 476) .none 0)) #[])
def o307 (P : Params) : Obj := (.mk (.type "tuple") none (.seq #[(.str "jug" 834)] 0) #[])
def o308 (P : Params) : Obj := (.mk (.type "dict") none (.dict #[(de P "__module__" 812 (.str "jughouse.moves" 690)), (de P "__firstlineno__" 816 (.int 223 815)), (de P "__init__" 824 (.ref 470)), (de P "held_behind" 833 (.ref 477)), (de P "__static_attributes__" 835 (.ref 478)), (de P "__doc__" 836 .none)] 2) #[])
def o309 (P : Params) : Obj := (.mk (.type "type") none (.cls (.mk "Fill" [(.ref 426)] [(.ref 480), (.ref 426), (.type "object")] 479 "Fill" true [] [] false none false)) #[(some (.ref 457)), none, (some (.str "Fill" 805)), (some (.str "Fill" 813)), (some (.builtin "object.__new__")), (some (.bool true))])
def o310 (P : Params) : Obj := (.mk (.type "super") none (.fields #[(.ref 480), (.ref 480), (.ref 480)]) #[])
def o311 (P : Params) : Obj := (.mk (.type "builtin_function_or_method") none (.fields #[(.builtin "object.__init_subclass__"), (.ref 480)]) #[])
def o312 (P : Params) : Obj := (.mk (.type "dict") none (.dict #[(de P "__module__" 846 (.str "jughouse.moves" 690)), (de P "__qualname__" 848 (.str "Empty" 847)), (de P "__firstlineno__" 850 (.int 232 849)), (de P "__init__" 858 (.ref 496)), (de P "held_behind" 867 (.ref 503)), (de P "__static_attributes__" 869 (.ref 504))] 6) #[])
def o313 (P : Params) : Obj := (.mk .none none (.fields #[(.int 234 0), (.int 4 0), (.ref 495), (.int 238 0), (.int 4 0), (.ref 502)]) #[])
def o314 (P : Params) : Obj := (.mk (.type "code") none (.fields #[(.str "Empty" 841), (.str "Empty" 842), (.str "/claim/cut.py" 843), (.int 232 0), (.int 0 0), (.int 0 0), (.int 0 0), (.int 0 0), (.ref 486), (.bool false), (.int 181 0), (.ref 487), .none, .none, .none, .none, (.int 844 0), (.int 232 0), (.str "/claim/cut.py" 845)]) #[])
def o315 (P : Params) : Obj := (.mk (.type "frame") none .plain #[(some (.ref 488)), (some (.ref 3)), (some (.ref 485)), none, (some (.str "jughouse.moves" 690)), none, (some (.ref 0))])
def o316 (P : Params) : Obj := (.mk (.type "tuple") none (.seq #[(.str "self" 854), (.str "jug" 855)] 0) #[])
def o317 (P : Params) : Obj := (.mk .none none (.func (fu (me 50 0) "__init__" "Empty.__init__" 0 [] .none .none .none .none none .none .none 0)) #[])
def o318 (P : Params) : Obj := (.mk (.type "code") none (.fields #[(.str "__init__" 851), (.str "Empty.__init__" 852), (.str "/claim/cut.py" 853), (.int 234 0), (.int 2 0), (.int 0 0), (.int 0 0), (.int 3 0), (.ref 490), (.bool true), (.int 181 0), (.ref 491), .none, (.ref 492), (.ref 493), (.ref 494), (.int 856 0), (.int 234 0), (.str "/claim/cut.py" 857)]) #[])
def o319 (P : Params) : Obj := (.mk (.type "function") none (.func (fu (me 50 0) "__init__" "Empty.__init__" 3 [] .none .none .none (.str "jughouse.moves" 690) none (.ref 495) .none 0)) #[])
def o320 (P : Params) : Obj := (.mk (.type "tuple") none (.seq #[(.str "self" 862), (.str "house" 863), (.str "held" 864)] 0) #[])
def o321 (P : Params) : Obj := (.mk .none none (.func (fu (me 50 1) "held_behind" "Empty.held_behind" 0 [] .none .none .none .none none .none .none 0)) #[])
def o322 (P : Params) : Obj := (.mk (.type "code") none (.fields #[(.str "held_behind" 859), (.str "Empty.held_behind" 860), (.str "/claim/cut.py" 861), (.int 238 0), (.int 3 0), (.int 0 0), (.int 0 0), (.int 3 0), (.ref 497), (.bool true), (.int 181 0), (.ref 498), .none, (.ref 499), (.ref 500), (.ref 501), (.int 865 0), (.int 238 0), (.str "/claim/cut.py" 866)]) #[])
def o323 (P : Params) : Obj := (.mk (.type "function") none (.func (fu (me 50 1) "held_behind" "Empty.held_behind" 3 [] .none .none .none (.str "jughouse.moves" 690) none (.ref 502) .none 0)) #[])
def o324 (P : Params) : Obj := (.mk (.type "tuple") none (.seq #[(.str "jug" 868)] 0) #[])
def o325 (P : Params) : Obj := (.mk (.type "dict") none (.dict #[(de P "__module__" 846 (.str "jughouse.moves" 690)), (de P "__firstlineno__" 850 (.int 232 849)), (de P "__init__" 858 (.ref 496)), (de P "held_behind" 867 (.ref 503)), (de P "__static_attributes__" 869 (.ref 504)), (de P "__doc__" 870 .none)] 2) #[])
def o326 (P : Params) : Obj := (.mk (.type "type") none (.cls (.mk "Empty" [(.ref 426)] [(.ref 506), (.ref 426), (.type "object")] 505 "Empty" true [] [] false none false)) #[(some (.ref 483)), none, (some (.str "Empty" 839)), (some (.str "Empty" 847)), (some (.builtin "object.__new__")), (some (.bool true))])
def o327 (P : Params) : Obj := (.mk (.type "super") none (.fields #[(.ref 506), (.ref 506), (.ref 506)]) #[])
def o328 (P : Params) : Obj := (.mk (.type "builtin_function_or_method") none (.fields #[(.builtin "object.__init_subclass__"), (.ref 506)]) #[])
def o329 (P : Params) : Obj := (.mk (.type "tuple") none (.seq #[(.str "sizes" 880), (.str "told" 881), (.str "size" 882)] 0) #[])
def o330 (P : Params) : Obj := (.mk .none none (.func (fu (st 53) "sizes_in" "sizes_in" 0 [] .none .none .none .none none .none .none 0)) #[])
def o331 (P : Params) : Obj := (.mk (.type "code") none (.fields #[(.str "sizes_in" 877), (.str "sizes_in" 878), (.str "/claim/cut.py" 879), (.int 243 0), (.int 1 0), (.int 0 0), (.int 0 0), (.int 3 0), (.ref 509), (.bool true), (.int 181 0), (.ref 510), .none, (.ref 511), (.ref 512), (.ref 513), (.int 883 0), (.int 243 0), (.str "/claim/cut.py" 884)]) #[])
def o332 (P : Params) : Obj := (.mk (.type "function") none (.func (fu (st 53) "sizes_in" "sizes_in" 3 [] .none .none .none (.str "jughouse.houses" 873) none (.ref 514) .none 0)) #[])
def o333 (P : Params) : Obj := (.mk (.type "tuple") none (.seq #[(.str "sizes" 889), (.str "many" 890), (.str "size" 891)] 0) #[])
def o334 (P : Params) : Obj := (.mk .none none (.func (fu (st 54) "count_states" "count_states" 0 [] .none .none .none .none none .none .none 0)) #[])
def o335 (P : Params) : Obj := (.mk (.type "code") none (.fields #[(.str "count_states" 886), (.str "count_states" 887), (.str "/claim/cut.py" 888), (.int 255 0), (.int 1 0), (.int 0 0), (.int 0 0), (.int 3 0), (.ref 516), (.bool true), (.int 181 0), (.ref 517), .none, (.ref 518), (.ref 519), (.ref 520), (.int 892 0), (.int 255 0), (.str "/claim/cut.py" 893)]) #[])
def o336 (P : Params) : Obj := (.mk (.type "function") none (.func (fu (st 54) "count_states" "count_states" 3 [] .none .none .none (.str "jughouse.houses" 873) none (.ref 521) .none 0)) #[])
def o337 (P : Params) : Obj := (.mk (.type "tuple") none (.seq #[(.str "many" 898), (.str "pours" 899), (.str "one" 900), (.str "other" 901)] 0) #[])
def o338 (P : Params) : Obj := (.mk .none none (.func (fu (st 55) "pours_among" "pours_among" 0 [] .none .none .none .none none .none .none 0)) #[])
def o339 (P : Params) : Obj := (.mk (.type "code") none (.fields #[(.str "pours_among" 895), (.str "pours_among" 896), (.str "/claim/cut.py" 897), (.int 260 0), (.int 1 0), (.int 0 0), (.int 0 0), (.int 3 0), (.ref 523), (.bool true), (.int 181 0), (.ref 524), .none, (.ref 525), (.ref 526), (.ref 527), (.int 902 0), (.int 260 0), (.str "/claim/cut.py" 903)]) #[])
def o340 (P : Params) : Obj := (.mk (.type "function") none (.func (fu (st 55) "pours_among" "pours_among" 3 [] .none .none .none (.str "jughouse.houses" 873) none (.ref 528) .none 0)) #[])
def o341 (P : Params) : Obj := (.mk (.type "dict") none (.dict #[(de P "__module__" 912 (.str "jughouse.houses" 873)), (de P "__qualname__" 914 (.str "House" 913)), (de P "__firstlineno__" 916 (.int 267 915)), (de P "__init__" 925 (.ref 543)), (de P "sizes" 932 (.ref 550)), (de P "moves" 938 (.ref 555)), (de P "states" 945 (.ref 562)), (de P "empty" 951 (.ref 567)), (de P "__static_attributes__" 954 (.ref 568))] 9) #[])
def o342 (P : Params) : Obj := (.mk .none none (.fields #[(.int 269 0), (.int 4 0), (.ref 542), (.int 275 0), (.int 4 0), (.ref 549), (.int 278 0), (.int 4 0), (.ref 554), (.int 286 0), (.int 4 0), (.ref 561), (.int 289 0), (.int 4 0), (.ref 566)]) #[])
def o343 (P : Params) : Obj := (.mk (.type "code") none (.fields #[(.str "House" 907), (.str "House" 908), (.str "/claim/cut.py" 909), (.int 267 0), (.int 0 0), (.int 0 0), (.int 0 0), (.int 0 0), (.ref 533), (.bool false), (.int 181 0), (.ref 534), .none, .none, .none, .none, (.int 910 0), (.int 267 0), (.str "/claim/cut.py" 911)]) #[])
def o344 (P : Params) : Obj := (.mk (.type "frame") none .plain #[(some (.ref 535)), (some (.ref 3)), (some (.ref 532)), none, (some (.str "jughouse.houses" 873)), none, (some (.ref 0))])
def o345 (P : Params) : Obj := (.mk (.type "tuple") none (.seq #[(.str "self" 920), (.str "sizes" 921), (.str "tap" 922)] 0) #[])
def o346 (P : Params) : Obj := (.mk .none none (.func (fu (me 56 0) "__init__" "House.__init__" 0 [] .none .none .none .none none .none .none 0)) #[])
def o347 (P : Params) : Obj := (.mk (.type "code") none (.fields #[(.str "__init__" 917), (.str "House.__init__" 918), (.str "/claim/cut.py" 919), (.int 269 0), (.int 3 0), (.int 0 0), (.int 0 0), (.int 3 0), (.ref 537), (.bool true), (.int 181 0), (.ref 538), .none, (.ref 539), (.ref 540), (.ref 541), (.int 923 0), (.int 269 0), (.str "/claim/cut.py" 924)]) #[])
def o348 (P : Params) : Obj := (.mk (.type "function") none (.func (fu (me 56 0) "__init__" "House.__init__" 3 [] .none .none .none (.str "jughouse.houses" 873) none (.ref 542) .none 0)) #[])
def o349 (P : Params) : Obj := (.mk (.type "tuple") none (.seq #[(.str "self" 929)] 0) #[])
def o350 (P : Params) : Obj := (.mk .none none (.func (fu (me 56 1) "sizes" "House.sizes" 0 [] .none .none .none .none none .none .none 0)) #[])
def o351 (P : Params) : Obj := (.mk (.type "code") none (.fields #[(.str "sizes" 926), (.str "House.sizes" 927), (.str "/claim/cut.py" 928), (.int 275 0), (.int 1 0), (.int 0 0), (.int 0 0), (.int 3 0), (.ref 544), (.bool true), (.int 181 0), (.ref 545), .none, (.ref 546), (.ref 547), (.ref 548), (.int 930 0), (.int 275 0), (.str "/claim/cut.py" 931)]) #[])
def o352 (P : Params) : Obj := (.mk (.type "function") none (.func (fu (me 56 1) "sizes" "House.sizes" 3 [] .none .none .none (.str "jughouse.houses" 873) none (.ref 549) .none 0)) #[])
def o353 (P : Params) : Obj := (.mk .none none (.func (fu (me 56 2) "moves" "House.moves" 0 [] .none .none .none .none none .none .none 0)) #[])
def o354 (P : Params) : Obj := (.mk (.type "code") none (.fields #[(.str "moves" 933), (.str "House.moves" 934), (.str "/claim/cut.py" 935), (.int 278 0), (.int 1 0), (.int 0 0), (.int 0 0), (.int 3 0), (.ref 551), (.bool true), (.int 181 0), (.ref 552), .none, .none, .none, (.ref 553), (.int 936 0), (.int 278 0), (.str "/claim/cut.py" 937)]) #[])
def o355 (P : Params) : Obj := (.mk (.type "function") none (.func (fu (me 56 2) "moves" "House.moves" 3 [] .none .none .none (.str "jughouse.houses" 873) none (.ref 554) .none 0)) #[])
def o356 (P : Params) : Obj := (.mk (.type "tuple") none (.seq #[(.str "self" 942)] 0) #[])
def o357 (P : Params) : Obj := (.mk .none none (.func (fu (me 56 3) "states" "House.states" 0 [] .none .none .none .none none .none .none 0)) #[])
def o358 (P : Params) : Obj := (.mk (.type "code") none (.fields #[(.str "states" 939), (.str "House.states" 940), (.str "/claim/cut.py" 941), (.int 286 0), (.int 1 0), (.int 0 0), (.int 0 0), (.int 3 0), (.ref 556), (.bool true), (.int 181 0), (.ref 557), .none, (.ref 558), (.ref 559), (.ref 560), (.int 943 0), (.int 286 0), (.str "/claim/cut.py" 944)]) #[])
def o359 (P : Params) : Obj := (.mk (.type "function") none (.func (fu (me 56 3) "states" "House.states" 3 [] .none .none .none (.str "jughouse.houses" 873) none (.ref 561) .none 0)) #[])
def o360 (P : Params) : Obj := (.mk .none none (.func (fu (me 56 4) "empty" "House.empty" 0 [] .none .none .none .none none .none .none 0)) #[])
def o361 (P : Params) : Obj := (.mk (.type "code") none (.fields #[(.str "empty" 946), (.str "House.empty" 947), (.str "/claim/cut.py" 948), (.int 289 0), (.int 1 0), (.int 0 0), (.int 0 0), (.int 3 0), (.ref 563), (.bool true), (.int 181 0), (.ref 564), .none, .none, .none, (.ref 565), (.int 949 0), (.int 289 0), (.str "/claim/cut.py" 950)]) #[])
def o362 (P : Params) : Obj := (.mk (.type "function") none (.func (fu (me 56 4) "empty" "House.empty" 3 [] .none .none .none (.str "jughouse.houses" 873) none (.ref 566) .none 0)) #[])
def o363 (P : Params) : Obj := (.mk (.type "tuple") none (.seq #[(.str "jug_sizes" 952), (.str "tap" 953)] 0) #[])
def o364 (P : Params) : Obj := (.mk (.type "dict") none (.dict #[(de P "__module__" 912 (.str "jughouse.houses" 873)), (de P "__firstlineno__" 916 (.int 267 915)), (de P "__init__" 925 (.ref 543)), (de P "sizes" 932 (.ref 550)), (de P "moves" 938 (.ref 555)), (de P "states" 945 (.ref 562)), (de P "empty" 951 (.ref 567)), (de P "__static_attributes__" 954 (.ref 568)), (de P "__dict__" 956 (.ref 571)), (de P "__weakref__" 958 (.ref 572)), (de P "__doc__" 959 .none)] 4) #[])
def o365 (P : Params) : Obj := (.mk (.type "type") none (.cls (.mk "House" [(.type "object")] [(.ref 570), (.type "object")] 569 "House" true [] [] false none false)) #[none, none, (some (.str "House" 905)), (some (.str "House" 913)), (some (.builtin "object.__new__")), (some (.bool true))])
def o366 (P : Params) : Obj := (.mk (.type "getset_descriptor") none (.fields #[(.str "__dict__" 955), (.ref 570), (.builtin "function.__dict__"), (.builtin "function.__dict__#set")]) #[])
def o367 (P : Params) : Obj := (.mk (.type "getset_descriptor") none (.fields #[(.str "__weakref__" 957), (.ref 570), (.builtin "ExceptionGroup.__weakref__"), .none]) #[])
def o368 (P : Params) : Obj := (.mk (.type "super") none (.fields #[(.ref 570), (.ref 570), (.ref 570)]) #[])
def o369 (P : Params) : Obj := (.mk (.type "builtin_function_or_method") none (.fields #[(.builtin "object.__init_subclass__"), (.ref 570)]) #[])
def o370 (P : Params) : Obj := (.mk (.type "tuple") none (.seq #[(.str "_law_script" 967), (.str "_law_k" 968)] 0) #[])
def o371 (P : Params) : Obj := (.mk .none none (.func (fu (st 58) "_law_cell_at" "_law_cell_at" 0 [] .none .none .none .none none .none .none 0)) #[])
def o372 (P : Params) : Obj := (.mk (.type "code") none (.fields #[(.str "_law_cell_at" 964), (.str "_law_cell_at" 965), (.str "/claim/cut.py" 966), (.int 292 0), (.int 2 0), (.int 0 0), (.int 0 0), (.int 3 0), (.ref 575), (.bool true), (.int 181 0), (.ref 576), .none, (.ref 577), (.ref 578), (.ref 579), (.int 969 0), (.int 292 0), (.str "/claim/cut.py" 970)]) #[])
def o373 (P : Params) : Obj := (.mk (.type "function") none (.func (fu (st 58) "_law_cell_at" "_law_cell_at" 3 [] .none .none .none (.str "law_jughouse_k06_whole_two_jugs" 962) none (.ref 580) .none 0)) #[])
def o374 (P : Params) : Obj := (.mk (.type "tuple") none (.seq #[(.str "_law_cell" 975), (.str "_law_k" 976), (.str "_law_many" 977), (.str "_law_primes" 978)] 0) #[])
def o375 (P : Params) : Obj := (.mk .none none (.func (fu (st 59) "_law_draw" "_law_draw" 0 [] .none .none .none .none none .none .none 0)) #[])
def o376 (P : Params) : Obj := (.mk (.type "code") none (.fields #[(.str "_law_draw" 972), (.str "_law_draw" 973), (.str "/claim/cut.py" 974), (.int 296 0), (.int 3 0), (.int 0 0), (.int 0 0), (.int 3 0), (.ref 582), (.bool true), (.int 181 0), (.ref 583), .none, (.ref 584), (.ref 585), (.ref 586), (.int 979 0), (.int 296 0), (.str "/claim/cut.py" 980)]) #[])
def o377 (P : Params) : Obj := (.mk (.type "function") none (.func (fu (st 59) "_law_draw" "_law_draw" 3 [] .none .none .none (.str "law_jughouse_k06_whole_two_jugs" 962) none (.ref 587) .none 0)) #[])
def o378 (P : Params) : Obj := (.mk (.type "tuple") none (.seq #[(.str "_law_one" 985), (.str "_law_other" 986), (.str "_law_found" 987), (.str "_law_many" 988)] 0) #[])
def o379 (P : Params) : Obj := (.mk .none none (.func (fu (st 60) "_law_common" "_law_common" 0 [] .none .none .none .none none .none .none 0)) #[])
def o380 (P : Params) : Obj := (.mk (.type "code") none (.fields #[(.str "_law_common" 982), (.str "_law_common" 983), (.str "/claim/cut.py" 984), (.int 299 0), (.int 2 0), (.int 0 0), (.int 0 0), (.int 3 0), (.ref 589), (.bool true), (.int 181 0), (.ref 590), .none, (.ref 591), (.ref 592), (.ref 593), (.int 989 0), (.int 299 0), (.str "/claim/cut.py" 990)]) #[])
def o381 (P : Params) : Obj := (.mk (.type "function") none (.func (fu (st 60) "_law_common" "_law_common" 3 [] .none .none .none (.str "law_jughouse_k06_whole_two_jugs" 962) none (.ref 594) .none 0)) #[])
def o382 (P : Params) : Obj := (.mk (.type "tuple") none (.seq #[(.str "_law_script" 995), (.str "_law_sizes" 996), (.str "_law_house" 997), (.str "_law_step" 998), (.str "_law_many" 999), (.str "_law_found" 1000)] 0) #[])
def o383 (P : Params) : Obj := (.mk .none none (.func (fu (st 61) "law" "law" 0 [] .none .none .none .none none .none .none 0)) #[])
def o384 (P : Params) : Obj := (.mk (.type "code") none (.fields #[(.str "law" 992), (.str "law" 993), (.str "/claim/cut.py" 994), (.int 305 0), (.int 1 0), (.int 0 0), (.int 0 0), (.int 3 0), (.ref 596), (.bool true), (.int 181 0), (.ref 597), .none, (.ref 598), (.ref 599), (.ref 600), (.int 1001 0), (.int 305 0), (.str "/claim/cut.py" 1002)]) #[])
def o385 (P : Params) : Obj := (.mk (.type "function") none (.func (fu (st 61) "law" "law" 3 [] .none .none .none (.str "law_jughouse_k06_whole_two_jugs" 962) none (.ref 601) .none 0)) #[])
abbrev N := BT.node
abbrev L := BT.nil
def lifeF : Life := (.mk [] [] [] 0 [] [] false #[] [] 0 false false false 0 [2000, 10, 10] false 0 true [] [] 0 false)
def drawnF : Drawn := (.mk 0 0 0 0)
def hA (P : Params) : Heap := ⟨Array.mk (boot_o_0 P :: boot_o_1 P :: boot_o_2 P :: boot_o_3 P :: boot_o_4 P :: boot_o_5 P :: boot_o_6 P :: boot_o_7 P :: boot_o_8 P :: boot_o_9 P :: boot_o_10 P :: boot_o_7 P :: 
  boot_o_8 P :: o11 P :: o12 P :: []), lifeF⟩
def sA (w : World) (os : OsState) : Shared := ⟨hA w.params, Array.mk [], drawnF, 187, os⟩
def tB (P : Params) : BT := (N (boot_o_0 P) (N (boot_o_1 P) (N (boot_o_3 P) (N (boot_o_7 P) L L) (N (boot_o_7 P) L L)) (N (boot_o_5 P) (N (boot_o_9 P) L L) (N (o11 P) L L))) (N (boot_o_2 P) (N (boot_o_4 P) (N (boot_o_8 P) L L) (N (boot_o_8 P) L L)) (N (boot_o_6 P) (N (boot_o_10 P) L L) (N (o12 P) L L))))
def sB (w : World) (os : OsState) : SharedT := ⟨tB w.params, 15, lifeF, Array.mk [], drawnF, 187, os⟩
def tC0 (P : Params) : BT := (N (boot_o_0 P) (N (boot_o_1 P) (N (o13 P) (N (boot_o_7 P) (N (boot_o_7 P) (N (o25 P) (N (boot_o_8 P) (N (o82 P) (N (boot_o_8 P) (N (o329 P) L L) L) (N (boot_o_8 P) L L)) (N (boot_o_7 P) (N (boot_o_8 P) (N (boot_o_7 P) L L) L) (N (o286 P) L L))) (N (o64 P) (N (o101 P) (N (o185 P) (N (o348 P) L L) L) (N (o265 P) L L)) (N (o142 P) (N (o228 P) L L) (N (o308 P) L L)))) (N (o29 P) (N (o54 P) (N (o91 P) (N (boot_o_7 P) (N (o338 P) L L) L) (N (boot_o_7 P) L L)) (N (o131 P) (N (boot_o_7 P) (N (o378 P) L L) L) (N (o298 P) L L))) (N (boot_o_7 P) (N (boot_o_8 P) (N (o194 P) (N (boot_o_7 P) L L) L) (N (o277 P) L L)) (N (o154 P) (N (o238 P) L L) (N (o318 P) L L))))) (N (o20 P) (N (boot_o_8 P) (N (o29 P) (N (boot_o_7 P) (N (o170 P) (N (boot_o_7 P) L L) L) (N (o251 P) L L)) (N (o126 P) (N (o213 P) (N (boot_o_8 P) L L) L) (N (o293 P) L L))) (N (o69 P) (N (boot_o_7 P) (N (o190 P) (N (boot_o_7 P) L L) L) (N (o270 P) L L)) (N (boot_o_7 P) (N (o233 P) L L) (N (o313 P) L L)))) (N (o40 P) (N (o59 P) (N (o96 P) (N (boot_o_8 P) (N (o343 P) L L) L) (N (o260 P) L L)) (N (o20 P) (N (o223 P) (N (boot_o_7 P) L L) L) (N (boot_o_7 P) L L))) (N (boot_o_8 P) (N (o115 P) (N (o201 P) (N (o362 P) L L) L) (N (boot_o_8 P) L L)) (N (boot_o_7 P) (N (boot_o_7 P) L L) (N (o323 P) L L)))))) (N (boot_o_7 P) (N (o16 P) (N (o29 P) (N (o47 P) (N (o85 P) (N (o166 P) (N (o332 P) L L) L) (N (o249 P) L L)) (N (boot_o_7 P) (N (o209 P) (N (o371 P) L L) L) (N (o289 P) L L))) (N (o66 P) (N (boot_o_7 P) (N (boot_o_8 P) (N (boot_o_7 P) L L) L) (N (o267 P) L L)) (N (o145 P) (N (boot_o_8 P) L L) (N (o277 P) L L)))) (N (boot_o_8 P) (N (boot_o_7 P) (N (boot_o_8 P) (N (o176 P) (N (o20 P) L L) L) (N (boot_o_7 P) L L)) (N (o135 P) (N (o219 P) (N (o381 P) L L) L) (N (boot_o_7 P) L L))) (N (o75 P) (N (o112 P) (N (o197 P) (N (boot_o_7 P) L L) L) (N (o279 P) L L)) (N (boot_o_7 P) (N (boot_o_7 P) L L) (N (o320 P) L L))))) (N (o22 P) (N (o33 P) (N (boot_o_8 P) (N (boot_o_7 P) (N (boot_o_7 P) (N (boot_o_7 P) L L) L) (N (o254 P) L L)) (N (boot_o_8 P) (N (boot_o_7 P) (N (o376 P) L L) L) (N (o295 P) L L))) (N (boot_o_7 P) (N (o107 P) (N (o192 P) (N (o355 P) L L) L) (N (o273 P) L L)) (N (o150 P) (N (o235 P) L L) (N (boot_o_8 P) L L)))) (N (o29 P) (N (boot_o_8 P) (N (o98 P) (N (o181 P) (N (o345 P) L L) L) (N (boot_o_8 P) L L)) (N (o140 P) (N (boot_o_7 P) L L) (N (o304 P) L L))) (N (o80 P) (N (o119 P) (N (o203 P) (N (o366 P) L L) L) (N (o284 P) L L)) (N (o160 P) (N (o244 P) L L) (N (o327 P) L L))))))) (N (boot_o_5 P) (N (boot_o_9 P) (N (o15 P) (N (o27 P) (N (o46 P) (N (o83 P) (N (o164 P) (N (o330 P) L L) L) (N (boot_o_7 P) L L)) (N (o123 P) (N (o207 P) (N (o370 P) L L) L) (N (o287 P) L L))) (N (boot_o_7 P) (N (o20 P) (N (o187 P) (N (boot_o_8 P) L L) L) (N (boot_o_7 P) L L)) (N (o143 P) (N (o230 P) L L) (N (o310 P) L L)))) (N (o37 P) (N (o56 P) (N (o93 P) (N (o175 P) (N (o340 P) L L) L) (N (o257 P) L L)) (N (o133 P) (N (o218 P) (N (o379 P) L L) L) (N (boot_o_8 P) L L))) (N (o74 P) (N (boot_o_7 P) (N (o195 P) (N (o358 P) L L) L) (N (o278 P) L L)) (N (o20 P) (N (boot_o_8 P) L L) (N (boot_o_7 P) L L))))) (N (boot_o_7 P) (N (o32 P) (N (o51 P) (N (o88 P) (N (o20 P) (N (o335 P) L L) L) (N (o252 P) L L)) (N (o128 P) (N (o20 P) (N (boot_o_7 P) L L) L) (N (o277 P) L L))) (N (boot_o_8 P) (N (o106 P) (N (boot_o_7 P) (N (o353 P) L L) L) (N (o271 P) L L)) (N (o148 P) (N (boot_o_7 P) L L) (N (o315 P) L L)))) (N (o42 P) (N (o61 P) (N (boot_o_7 P) (N (boot_o_7 P) (N (boot_o_7 P) L L) L) (N (o262 P) L L)) (N (boot_o_7 P) (N (o225 P) (N (o384 P) L L) L) (N (o303 P) L L))) (N (boot_o_7 P) (N (o117 P) (N (o202 P) (N (o364 P) L L) L) (N (boot_o_7 P) L L)) (N (o159 P) (N (o243 P) L L) (N (o325 P) L L)))))) (N (o11 P) (N (o18 P) (N (o30 P) (N (o49 P) (N (boot_o_8 P) (N (o168 P) (N (boot_o_8 P) L L) L) (N (boot_o_7 P) L L)) (N (o125 P) (N (o211 P) (N (o373 P) L L) L) (N (o291 P) L L))) (N (o67 P) (N (o104 P) (N (boot_o_7 P) (N (o351 P) L L) L) (N (o268 P) L L)) (N (boot_o_8 P) (N (boot_o_7 P) L L) (N (o312 P) L L)))) (N (o39 P) (N (o58 P) (N (boot_o_7 P) (N (o178 P) (N (boot_o_7 P) L L) L) (N (o259 P) L L)) (N (o137 P) (N (o221 P) (N (boot_o_8 P) L L) L) (N (o301 P) L L))) (N (o77 P) (N (boot_o_7 P) (N (o199 P) (N (o360 P) L L) L) (N (o281 P) L L)) (N (o157 P) (N (o241 P) L L) (N (o321 P) L L))))) (N (boot_o_7 P) (N (o35 P) (N (o53 P) (N (o90 P) (N (o173 P) (N (o337 P) L L) L) (N (boot_o_8 P) L L)) (N (boot_o_7 P) (N (o216 P) (N (boot_o_7 P) L L) L) (N (o296 P) L L))) (N (o72 P) (N (o109 P) (N (boot_o_8 P) (N (boot_o_8 P) L L) L) (N (o275 P) L L)) (N (o152 P) (N (o236 P) L L) (N (boot_o_7 P) L L)))) (N (o44 P) (N (boot_o_7 P) (N (o99 P) (N (o183 P) (N (o346 P) L L) L) (N (boot_o_7 P) L L)) (N (boot_o_7 P) (N (o227 P) L L) (N (o306 P) L L))) (N (boot_o_7 P) (N (o20 P) (N (o205 P) (N (o368 P) L L) L) (N (boot_o_7 P) L L)) (N (o162 P) (N (o246 P) L L) (N (boot_o_7 P) L L)))))))) (N (boot_o_2 P) (N (boot_o_4 P) (N (boot_o_8 P) (N (boot_o_8 P) (N (o26 P) (N (o45 P) (N (boot_o_7 P) (N (o163 P) (N (boot_o_7 P) L L) L) (N (o247 P) L L)) (N (o122 P) (N (o206 P) (N (boot_o_8 P) L L) L) (N (boot_o_7 P) L L))) (N (o65 P) (N (boot_o_7 P) (N (o186 P) (N (boot_o_7 P) L L) L) (N (o266 P) L L)) (N (boot_o_7 P) (N (o229 P) L L) (N (o309 P) L L)))) (N (o20 P) (N (o55 P) (N (o92 P) (N (boot_o_8 P) (N (o339 P) L L) L) (N (o256 P) L L)) (N (o132 P) (N (boot_o_8 P) (N (boot_o_7 P) L L) L) (N (boot_o_7 P) L L))) (N (boot_o_8 P) (N (o110 P) (N (boot_o_7 P) (N (o357 P) L L) L) (N (o20 P) L L)) (N (o120 P) (N (boot_o_7 P) L L) (N (o319 P) L L))))) (N (o21 P) (N (o31 P) (N (o20 P) (N (o87 P) (N (o120 P) (N (o334 P) L L) L) (N (boot_o_7 P) L L)) (N (o127 P) (N (o201 P) (N (o374 P) L L) L) (N (o294 P) L L))) (N (boot_o_7 P) (N (boot_o_8 P) (N (o191 P) (N (boot_o_8 P) L L) L) (N (boot_o_7 P) L L)) (N (o147 P) (N (o234 P) L L) (N (o314 P) L L)))) (N (o41 P) (N (o60 P) (N (o97 P) (N (o179 P) (N (o344 P) L L) L) (N (o261 P) L L)) (N (o138 P) (N (o224 P) (N (o383 P) L L) L) (N (boot_o_8 P) L L))) (N (o78 P) (N (o116 P) (N (o20 P) (N (o363 P) L L) L) (N (o282 P) L L)) (N (boot_o_8 P) (N (boot_o_8 P) L L) (N (o324 P) L L)))))) (N (o14 P) (N (o17 P) (N (o20 P) (N (o48 P) (N (boot_o_7 P) (N (o167 P) (N (boot_o_7 P) L L) L) (N (o250 P) L L)) (N (boot_o_8 P) (N (o210 P) (N (o372 P) L L) L) (N (o290 P) L L))) (N (boot_o_7 P) (N (o103 P) (N (o188 P) (N (o350 P) L L) L) (N (boot_o_7 P) L L)) (N (boot_o_7 P) (N (o231 P) L L) (N (o20 P) L L)))) (N (o38 P) (N (boot_o_8 P) (N (o94 P) (N (o177 P) (N (o341 P) L L) L) (N (o20 P) L L)) (N (o136 P) (N (o220 P) (N (boot_o_7 P) L L) L) (N (o300 P) L L))) (N (o76 P) (N (o113 P) (N (o198 P) (N (boot_o_8 P) L L) L) (N (o280 P) L L)) (N (o156 P) (N (o240 P) L L) (N (boot_o_7 P) L L))))) (N (o23 P) (N (o34 P) (N (o52 P) (N (boot_o_8 P) (N (o172 P) (N (boot_o_8 P) L L) L) (N (boot_o_7 P) L L)) (N (o129 P) (N (o215 P) (N (o377 P) L L) L) (N (boot_o_7 P) L L))) (N (o71 P) (N (o108 P) (N (boot_o_7 P) (N (boot_o_7 P) L L) L) (N (o274 P) L L)) (N (o151 P) (N (boot_o_7 P) L L) (N (o316 P) L L)))) (N (o20 P) (N (o62 P) (N (boot_o_7 P) (N (o182 P) (N (boot_o_7 P) L L) L) (N (o263 P) L L)) (N (o141 P) (N (boot_o_8 P) L L) (N (o305 P) L L))) (N (o81 P) (N (o120 P) (N (o204 P) (N (o367 P) L L) L) (N (o285 P) L L)) (N (o161 P) (N (o245 P) L L) (N (o328 P) L L))))))) (N (boot_o_6 P) (N (boot_o_10 P) (N (boot_o_7 P) (N (o28 P) (N (boot_o_7 P) (N (o84 P) (N (o165 P) (N (o331 P) L L) L) (N (o248 P) L L)) (N (o124 P) (N (o208 P) (N (boot_o_7 P) L L) L) (N (o288 P) L L))) (N (boot_o_8 P) (N (o102 P) (N (boot_o_7 P) (N (o349 P) L L) L) (N (boot_o_8 P) L L)) (N (o144 P) (N (boot_o_7 P) L L) (N (o311 P) L L)))) (N (boot_o_7 P) (N (o57 P) (N (boot_o_7 P) (N (boot_o_7 P) (N (boot_o_7 P) L L) L) (N (o258 P) L L)) (N (o134 P) (N (boot_o_7 P) (N (o380 P) L L) L) (N (o299 P) L L))) (N (boot_o_7 P) (N (o111 P) (N (o196 P) (N (o359 P) L L) L) (N (boot_o_7 P) L L)) (N (o155 P) (N (o239 P) L L) (N (boot_o_8 P) L L))))) (N (boot_o_8 P) (N (boot_o_7 P) (N (boot_o_7 P) (N (o89 P) (N (o171 P) (N (o336 P) L L) L) (N (o253 P) L L)) (N (boot_o_7 P) (N (o214 P) (N (o375 P) L L) L) (N (o20 P) L L))) (N (o70 P) (N (boot_o_7 P) (N (o20 P) (N (o354 P) L L) L) (N (o272 P) L L)) (N (o149 P) (N (boot_o_8 P) L L) (N (boot_o_7 P) L L)))) (N (o43 P) (N (boot_o_7 P) (N (boot_o_8 P) (N (o180 P) (N (boot_o_8 P) L L) L) (N (boot_o_7 P) L L)) (N (o139 P) (N (o226 P) (N (o385 P) L L) L) (N (boot_o_7 P) L L))) (N (o79 P) (N (o118 P) (N (boot_o_7 P) (N (o365 P) L L) L) (N (o283 P) L L)) (N (boot_o_7 P) (N (boot_o_7 P) L L) (N (o326 P) L L)))))) (N (o12 P) (N (o19 P) (N (boot_o_7 P) (N (o50 P) (N (o86 P) (N (o169 P) (N (o333 P) L L) L) (N (boot_o_8 P) L L)) (N (boot_o_7 P) (N (o212 P) (N (boot_o_7 P) L L) L) (N (o292 P) L L))) (N (o68 P) (N (o105 P) (N (o189 P) (N (o352 P) L L) L) (N (o269 P) L L)) (N (o146 P) (N (o232 P) L L) (N (boot_o_7 P) L L)))) (N (boot_o_7 P) (N (boot_o_7 P) (N (o95 P) (N (boot_o_7 P) (N (o342 P) L L) L) (N (boot_o_7 P) L L)) (N (o120 P) (N (o222 P) (N (o382 P) L L) L) (N (o302 P) L L))) (N (boot_o_7 P) (N (o114 P) (N (o200 P) (N (o361 P) L L) L) (N (boot_o_7 P) L L)) (N (o158 P) (N (o242 P) L L) (N (o322 P) L L))))) (N (o24 P) (N (o36 P) (N (boot_o_7 P) (N (boot_o_7 P) (N (o174 P) (N (boot_o_7 P) L L) L) (N (o255 P) L L)) (N (o130 P) (N (o217 P) (N (boot_o_8 P) L L) L) (N (o297 P) L L))) (N (o73 P) (N (boot_o_7 P) (N (o193 P) (N (o356 P) L L) L) (N (o276 P) L L)) (N (o153 P) (N (o237 P) L L) (N (o317 P) L L)))) (N (boot_o_7 P) (N (o63 P) (N (o100 P) (N (o184 P) (N (o347 P) L L) L) (N (o264 P) L L)) (N (boot_o_8 P) (N (boot_o_7 P) L L) (N (o307 P) L L))) (N (boot_o_8 P) (N (o121 P) (N (boot_o_7 P) (N (o369 P) L L) L) (N (boot_o_8 P) L L)) (N (boot_o_7 P) (N (boot_o_7 P) L L) (N (boot_o_8 P) L L)))))))))
def sC0 (w : World) (os : OsState) : SharedT := ⟨tC0 w.params, 603, lifeF, Array.mk [], drawnF, 1004, os⟩
def hF (P : Params) : Heap := ⟨Array.mk (boot_o_0 P :: boot_o_1 P :: boot_o_2 P :: o13 P :: boot_o_4 P :: boot_o_5 P :: boot_o_6 P :: boot_o_7 P :: boot_o_8 P :: boot_o_9 P :: boot_o_10 P :: boot_o_7 P :: 
  o14 P :: o11 P :: o12 P :: boot_o_7 P :: boot_o_8 P :: o15 P :: boot_o_7 P :: o16 P :: o17 P :: o18 P :: o19 P :: o20 P :: 
  o21 P :: boot_o_7 P :: boot_o_8 P :: o22 P :: o23 P :: boot_o_7 P :: o24 P :: o25 P :: o26 P :: o27 P :: o28 P :: o29 P :: 
  o20 P :: o30 P :: boot_o_7 P :: boot_o_8 P :: o31 P :: o32 P :: boot_o_7 P :: o33 P :: o34 P :: o35 P :: o36 P :: o29 P :: 
  o20 P :: o37 P :: boot_o_7 P :: boot_o_8 P :: o38 P :: o39 P :: boot_o_7 P :: o40 P :: o41 P :: o42 P :: o43 P :: o29 P :: 
  o20 P :: o44 P :: boot_o_7 P :: boot_o_8 P :: o45 P :: o46 P :: boot_o_7 P :: o47 P :: o48 P :: o49 P :: o50 P :: o29 P :: 
  o20 P :: o51 P :: boot_o_7 P :: boot_o_8 P :: o52 P :: o53 P :: boot_o_7 P :: o54 P :: o55 P :: o56 P :: o57 P :: boot_o_7 P :: 
  boot_o_8 P :: o58 P :: boot_o_7 P :: o59 P :: o60 P :: o61 P :: boot_o_7 P :: boot_o_8 P :: o62 P :: boot_o_7 P :: o63 P :: o64 P :: 
  o65 P :: boot_o_7 P :: boot_o_8 P :: o66 P :: boot_o_7 P :: o67 P :: o68 P :: o69 P :: boot_o_7 P :: boot_o_8 P :: o70 P :: boot_o_7 P :: 
  o71 P :: o72 P :: o73 P :: boot_o_7 P :: boot_o_8 P :: o74 P :: boot_o_7 P :: o75 P :: o76 P :: o77 P :: boot_o_7 P :: boot_o_8 P :: 
  o78 P :: boot_o_7 P :: o79 P :: o80 P :: o81 P :: boot_o_7 P :: boot_o_8 P :: o82 P :: boot_o_7 P :: o83 P :: o84 P :: o85 P :: 
  boot_o_7 P :: boot_o_8 P :: o86 P :: boot_o_7 P :: o87 P :: o88 P :: o89 P :: boot_o_7 P :: boot_o_8 P :: o90 P :: boot_o_7 P :: o91 P :: 
  o92 P :: o93 P :: boot_o_7 P :: boot_o_8 P :: o94 P :: boot_o_7 P :: o95 P :: o96 P :: o97 P :: boot_o_7 P :: boot_o_8 P :: o98 P :: 
  boot_o_7 P :: o99 P :: o100 P :: o101 P :: boot_o_7 P :: o20 P :: o102 P :: boot_o_7 P :: o103 P :: o104 P :: o105 P :: boot_o_7 P :: 
  boot_o_8 P :: o106 P :: boot_o_7 P :: o107 P :: o108 P :: o109 P :: boot_o_7 P :: boot_o_8 P :: o110 P :: boot_o_7 P :: o111 P :: o112 P :: 
  o113 P :: boot_o_7 P :: o114 P :: o115 P :: o116 P :: o117 P :: o118 P :: o119 P :: o120 P :: o20 P :: o121 P :: boot_o_7 P :: 
  o122 P :: o123 P :: o124 P :: boot_o_7 P :: boot_o_8 P :: o125 P :: boot_o_7 P :: o126 P :: o127 P :: o128 P :: boot_o_7 P :: boot_o_8 P :: 
  o129 P :: boot_o_7 P :: o130 P :: o131 P :: o132 P :: o133 P :: o134 P :: o135 P :: o136 P :: o137 P :: o120 P :: o20 P :: 
  o138 P :: boot_o_7 P :: o139 P :: o140 P :: o141 P :: boot_o_7 P :: boot_o_8 P :: o142 P :: boot_o_7 P :: o143 P :: o144 P :: o145 P :: 
  boot_o_7 P :: boot_o_8 P :: o146 P :: boot_o_7 P :: o147 P :: o148 P :: o149 P :: o150 P :: o151 P :: o152 P :: o153 P :: o154 P :: 
  o120 P :: o20 P :: o155 P :: boot_o_7 P :: o156 P :: o157 P :: o158 P :: boot_o_7 P :: boot_o_8 P :: o159 P :: boot_o_7 P :: o160 P :: 
  o161 P :: o162 P :: boot_o_7 P :: boot_o_8 P :: o163 P :: o164 P :: o165 P :: o166 P :: o167 P :: o168 P :: o169 P :: o170 P :: 
  o120 P :: o20 P :: o171 P :: boot_o_7 P :: o172 P :: o173 P :: o174 P :: boot_o_7 P :: boot_o_8 P :: o175 P :: boot_o_7 P :: o176 P :: 
  o177 P :: o178 P :: boot_o_7 P :: boot_o_8 P :: o179 P :: boot_o_7 P :: o180 P :: o181 P :: o182 P :: o183 P :: o184 P :: o185 P :: 
  o186 P :: o187 P :: boot_o_7 P :: boot_o_8 P :: o188 P :: boot_o_7 P :: o189 P :: o190 P :: o191 P :: boot_o_7 P :: o20 P :: o192 P :: 
  boot_o_7 P :: boot_o_8 P :: o193 P :: o194 P :: boot_o_7 P :: o195 P :: o196 P :: o197 P :: o198 P :: o199 P :: o200 P :: o201 P :: 
  o20 P :: o202 P :: boot_o_7 P :: o203 P :: o204 P :: o205 P :: boot_o_7 P :: boot_o_8 P :: o206 P :: o207 P :: o208 P :: o209 P :: 
  o210 P :: o211 P :: o212 P :: o213 P :: o201 P :: o20 P :: o214 P :: boot_o_7 P :: o215 P :: o216 P :: o217 P :: boot_o_7 P :: 
  boot_o_8 P :: o218 P :: boot_o_7 P :: o219 P :: o220 P :: o221 P :: o222 P :: o223 P :: o224 P :: o225 P :: o226 P :: boot_o_7 P :: 
  boot_o_8 P :: o227 P :: boot_o_7 P :: o228 P :: o229 P :: o230 P :: boot_o_7 P :: boot_o_8 P :: o231 P :: boot_o_7 P :: o232 P :: o233 P :: 
  o234 P :: boot_o_7 P :: boot_o_8 P :: o235 P :: boot_o_7 P :: o236 P :: o237 P :: o238 P :: boot_o_7 P :: boot_o_8 P :: o239 P :: boot_o_7 P :: 
  o240 P :: o241 P :: o242 P :: boot_o_7 P :: boot_o_8 P :: o243 P :: boot_o_7 P :: o244 P :: o245 P :: o246 P :: boot_o_7 P :: boot_o_8 P :: 
  o247 P :: boot_o_7 P :: o248 P :: o249 P :: o250 P :: boot_o_7 P :: boot_o_8 P :: o251 P :: boot_o_7 P :: o252 P :: o253 P :: o254 P :: 
  boot_o_7 P :: boot_o_8 P :: o255 P :: boot_o_7 P :: o256 P :: o257 P :: o258 P :: boot_o_7 P :: o20 P :: o259 P :: boot_o_7 P :: o260 P :: 
  o261 P :: o262 P :: boot_o_7 P :: boot_o_8 P :: o263 P :: boot_o_7 P :: o264 P :: o265 P :: o266 P :: boot_o_7 P :: boot_o_8 P :: o267 P :: 
  boot_o_7 P :: o268 P :: o269 P :: o270 P :: boot_o_7 P :: o271 P :: o272 P :: o273 P :: o274 P :: o275 P :: o276 P :: o277 P :: 
  o20 P :: o278 P :: boot_o_7 P :: o279 P :: o280 P :: o281 P :: boot_o_7 P :: boot_o_8 P :: o282 P :: boot_o_7 P :: o283 P :: o284 P :: 
  o285 P :: boot_o_7 P :: boot_o_8 P :: o286 P :: boot_o_7 P :: o287 P :: o288 P :: o289 P :: o290 P :: o291 P :: o292 P :: o293 P :: 
  o294 P :: o277 P :: o20 P :: o295 P :: boot_o_7 P :: o296 P :: o297 P :: o298 P :: boot_o_7 P :: boot_o_8 P :: o299 P :: boot_o_7 P :: 
  o300 P :: o301 P :: o302 P :: boot_o_7 P :: boot_o_8 P :: o303 P :: boot_o_7 P :: o304 P :: o305 P :: o306 P :: o307 P :: o308 P :: 
  o309 P :: o310 P :: o311 P :: o277 P :: o20 P :: o312 P :: boot_o_7 P :: o313 P :: o314 P :: o315 P :: boot_o_7 P :: boot_o_8 P :: 
  o316 P :: boot_o_7 P :: o317 P :: o318 P :: o319 P :: boot_o_7 P :: boot_o_8 P :: o320 P :: boot_o_7 P :: o321 P :: o322 P :: o323 P :: 
  o324 P :: o325 P :: o326 P :: o327 P :: o328 P :: boot_o_7 P :: boot_o_8 P :: o329 P :: boot_o_7 P :: o330 P :: o331 P :: o332 P :: 
  boot_o_7 P :: boot_o_8 P :: o333 P :: boot_o_7 P :: o334 P :: o335 P :: o336 P :: boot_o_7 P :: boot_o_8 P :: o337 P :: boot_o_7 P :: o338 P :: 
  o339 P :: o340 P :: boot_o_7 P :: o20 P :: o341 P :: boot_o_7 P :: o342 P :: o343 P :: o344 P :: boot_o_7 P :: boot_o_8 P :: o345 P :: 
  boot_o_7 P :: o346 P :: o347 P :: o348 P :: boot_o_7 P :: boot_o_8 P :: o349 P :: boot_o_7 P :: o350 P :: o351 P :: o352 P :: boot_o_7 P :: 
  boot_o_8 P :: o353 P :: o354 P :: o355 P :: boot_o_7 P :: boot_o_8 P :: o356 P :: boot_o_7 P :: o357 P :: o358 P :: o359 P :: boot_o_7 P :: 
  boot_o_8 P :: o360 P :: o361 P :: o362 P :: o363 P :: o364 P :: o365 P :: o366 P :: o367 P :: o368 P :: o369 P :: boot_o_7 P :: 
  boot_o_8 P :: o370 P :: boot_o_7 P :: o371 P :: o372 P :: o373 P :: boot_o_7 P :: boot_o_8 P :: o374 P :: boot_o_7 P :: o375 P :: o376 P :: 
  o377 P :: boot_o_7 P :: boot_o_8 P :: o378 P :: boot_o_7 P :: o379 P :: o380 P :: o381 P :: boot_o_7 P :: boot_o_8 P :: o382 P :: boot_o_7 P :: 
  o383 P :: o384 P :: o385 P :: []), lifeF⟩
def sF (w : World) (os : OsState) : Shared := ⟨hF w.params, Array.mk [], drawnF, 1004, os⟩
def KK (P : Params) : Frag := (nat_lit 2, boot_o_2 P) :: (nat_lit 3, o13 P) :: (nat_lit 15, boot_o_7 P) :: (nat_lit 17, o15 P) :: (nat_lit 18, boot_o_7 P) :: (nat_lit 20, o17 P) :: (nat_lit 21, o18 P) :: (nat_lit 22, o19 P) :: 
  (nat_lit 29, boot_o_7 P) :: (nat_lit 30, o24 P) :: (nat_lit 31, o25 P) :: (nat_lit 32, o26 P) :: (nat_lit 35, o29 P) :: (nat_lit 42, boot_o_7 P) :: (nat_lit 43, o33 P) :: (nat_lit 44, o34 P) :: 
  (nat_lit 47, o29 P) :: (nat_lit 54, boot_o_7 P) :: (nat_lit 55, o40 P) :: (nat_lit 56, o41 P) :: (nat_lit 59, o29 P) :: (nat_lit 66, boot_o_7 P) :: (nat_lit 67, o47 P) :: (nat_lit 68, o48 P) :: 
  (nat_lit 71, o29 P) :: (nat_lit 78, boot_o_7 P) :: (nat_lit 79, o54 P) :: (nat_lit 80, o55 P) :: (nat_lit 83, boot_o_7 P) :: (nat_lit 85, o58 P) :: (nat_lit 86, boot_o_7 P) :: (nat_lit 88, o60 P) :: 
  (nat_lit 89, o61 P) :: (nat_lit 90, boot_o_7 P) :: (nat_lit 92, o62 P) :: (nat_lit 93, boot_o_7 P) :: (nat_lit 95, o64 P) :: (nat_lit 96, o65 P) :: (nat_lit 97, boot_o_7 P) :: (nat_lit 99, o66 P) :: 
  (nat_lit 100, boot_o_7 P) :: (nat_lit 102, o68 P) :: (nat_lit 103, o69 P) :: (nat_lit 104, boot_o_7 P) :: (nat_lit 106, o70 P) :: (nat_lit 107, boot_o_7 P) :: (nat_lit 109, o72 P) :: (nat_lit 110, o73 P) :: 
  (nat_lit 111, boot_o_7 P) :: (nat_lit 113, o74 P) :: (nat_lit 114, boot_o_7 P) :: (nat_lit 116, o76 P) :: (nat_lit 117, o77 P) :: (nat_lit 118, boot_o_7 P) :: (nat_lit 120, o78 P) :: (nat_lit 121, boot_o_7 P) :: 
  (nat_lit 123, o80 P) :: (nat_lit 124, o81 P) :: (nat_lit 125, boot_o_7 P) :: (nat_lit 127, o82 P) :: (nat_lit 128, boot_o_7 P) :: (nat_lit 130, o84 P) :: (nat_lit 131, o85 P) :: (nat_lit 132, boot_o_7 P) :: 
  (nat_lit 134, o86 P) :: (nat_lit 135, boot_o_7 P) :: (nat_lit 137, o88 P) :: (nat_lit 138, o89 P) :: (nat_lit 139, boot_o_7 P) :: (nat_lit 141, o90 P) :: (nat_lit 142, boot_o_7 P) :: (nat_lit 144, o92 P) :: 
  (nat_lit 145, o93 P) :: (nat_lit 146, boot_o_7 P) :: (nat_lit 148, o94 P) :: (nat_lit 149, boot_o_7 P) :: (nat_lit 151, o96 P) :: (nat_lit 152, o97 P) :: (nat_lit 153, boot_o_7 P) :: (nat_lit 155, o98 P) :: 
  (nat_lit 156, boot_o_7 P) :: (nat_lit 158, o100 P) :: (nat_lit 159, o101 P) :: (nat_lit 167, boot_o_7 P) :: (nat_lit 169, o106 P) :: (nat_lit 170, boot_o_7 P) :: (nat_lit 172, o108 P) :: (nat_lit 173, o109 P) :: 
  (nat_lit 174, boot_o_7 P) :: (nat_lit 176, o110 P) :: (nat_lit 177, boot_o_7 P) :: (nat_lit 179, o112 P) :: (nat_lit 180, o113 P) :: (nat_lit 181, boot_o_7 P) :: (nat_lit 182, o114 P) :: (nat_lit 183, o115 P) :: 
  (nat_lit 184, o116 P) :: (nat_lit 185, o117 P) :: (nat_lit 188, o120 P) :: (nat_lit 195, boot_o_7 P) :: (nat_lit 197, o125 P) :: (nat_lit 198, boot_o_7 P) :: (nat_lit 200, o127 P) :: (nat_lit 201, o128 P) :: 
  (nat_lit 202, boot_o_7 P) :: (nat_lit 204, o129 P) :: (nat_lit 205, boot_o_7 P) :: (nat_lit 207, o131 P) :: (nat_lit 208, o132 P) :: (nat_lit 209, o133 P) :: (nat_lit 210, o134 P) :: (nat_lit 211, o135 P) :: 
  (nat_lit 214, o120 P) :: (nat_lit 221, boot_o_7 P) :: (nat_lit 223, o142 P) :: (nat_lit 224, boot_o_7 P) :: (nat_lit 226, o144 P) :: (nat_lit 227, o145 P) :: (nat_lit 228, boot_o_7 P) :: (nat_lit 230, o146 P) :: 
  (nat_lit 231, boot_o_7 P) :: (nat_lit 233, o148 P) :: (nat_lit 234, o149 P) :: (nat_lit 235, o150 P) :: (nat_lit 236, o151 P) :: (nat_lit 237, o152 P) :: (nat_lit 240, o120 P) :: (nat_lit 247, boot_o_7 P) :: 
  (nat_lit 249, o159 P) :: (nat_lit 250, boot_o_7 P) :: (nat_lit 252, o161 P) :: (nat_lit 253, o162 P) :: (nat_lit 254, boot_o_7 P) :: (nat_lit 257, o164 P) :: (nat_lit 258, o165 P) :: (nat_lit 259, o166 P) :: 
  (nat_lit 260, o167 P) :: (nat_lit 261, o168 P) :: (nat_lit 264, o120 P) :: (nat_lit 271, boot_o_7 P) :: (nat_lit 273, o175 P) :: (nat_lit 274, boot_o_7 P) :: (nat_lit 276, o177 P) :: (nat_lit 277, o178 P) :: 
  (nat_lit 278, boot_o_7 P) :: (nat_lit 280, o179 P) :: (nat_lit 281, boot_o_7 P) :: (nat_lit 283, o181 P) :: (nat_lit 284, o182 P) :: (nat_lit 285, o183 P) :: (nat_lit 286, o184 P) :: (nat_lit 287, o185 P) :: 
  (nat_lit 290, boot_o_7 P) :: (nat_lit 292, o188 P) :: (nat_lit 293, boot_o_7 P) :: (nat_lit 295, o190 P) :: (nat_lit 296, o191 P) :: (nat_lit 304, boot_o_7 P) :: (nat_lit 305, o195 P) :: (nat_lit 306, o196 P) :: 
  (nat_lit 307, o197 P) :: (nat_lit 308, o198 P) :: (nat_lit 311, o201 P) :: (nat_lit 318, boot_o_7 P) :: (nat_lit 321, o207 P) :: (nat_lit 322, o208 P) :: (nat_lit 323, o209 P) :: (nat_lit 324, o210 P) :: 
  (nat_lit 325, o211 P) :: (nat_lit 328, o201 P) :: (nat_lit 335, boot_o_7 P) :: (nat_lit 337, o218 P) :: (nat_lit 338, boot_o_7 P) :: (nat_lit 340, o220 P) :: (nat_lit 341, o221 P) :: (nat_lit 342, o222 P) :: 
  (nat_lit 343, o223 P) :: (nat_lit 344, o224 P) :: (nat_lit 347, boot_o_7 P) :: (nat_lit 349, o227 P) :: (nat_lit 350, boot_o_7 P) :: (nat_lit 352, o229 P) :: (nat_lit 353, o230 P) :: (nat_lit 354, boot_o_7 P) :: 
  (nat_lit 356, o231 P) :: (nat_lit 357, boot_o_7 P) :: (nat_lit 359, o233 P) :: (nat_lit 360, o234 P) :: (nat_lit 361, boot_o_7 P) :: (nat_lit 363, o235 P) :: (nat_lit 364, boot_o_7 P) :: (nat_lit 366, o237 P) :: 
  (nat_lit 367, o238 P) :: (nat_lit 368, boot_o_7 P) :: (nat_lit 370, o239 P) :: (nat_lit 371, boot_o_7 P) :: (nat_lit 373, o241 P) :: (nat_lit 374, o242 P) :: (nat_lit 375, boot_o_7 P) :: (nat_lit 377, o243 P) :: 
  (nat_lit 378, boot_o_7 P) :: (nat_lit 380, o245 P) :: (nat_lit 381, o246 P) :: (nat_lit 382, boot_o_7 P) :: (nat_lit 384, o247 P) :: (nat_lit 385, boot_o_7 P) :: (nat_lit 387, o249 P) :: (nat_lit 388, o250 P) :: 
  (nat_lit 389, boot_o_7 P) :: (nat_lit 391, o251 P) :: (nat_lit 392, boot_o_7 P) :: (nat_lit 394, o253 P) :: (nat_lit 395, o254 P) :: (nat_lit 396, boot_o_7 P) :: (nat_lit 398, o255 P) :: (nat_lit 399, boot_o_7 P) :: 
  (nat_lit 401, o257 P) :: (nat_lit 402, o258 P) :: (nat_lit 410, boot_o_7 P) :: (nat_lit 412, o263 P) :: (nat_lit 413, boot_o_7 P) :: (nat_lit 415, o265 P) :: (nat_lit 416, o266 P) :: (nat_lit 417, boot_o_7 P) :: 
  (nat_lit 419, o267 P) :: (nat_lit 420, boot_o_7 P) :: (nat_lit 422, o269 P) :: (nat_lit 423, o270 P) :: (nat_lit 424, boot_o_7 P) :: (nat_lit 425, o271 P) :: (nat_lit 426, o272 P) :: (nat_lit 427, o273 P) :: 
  (nat_lit 428, o274 P) :: (nat_lit 431, o277 P) :: (nat_lit 438, boot_o_7 P) :: (nat_lit 440, o282 P) :: (nat_lit 441, boot_o_7 P) :: (nat_lit 443, o284 P) :: (nat_lit 444, o285 P) :: (nat_lit 445, boot_o_7 P) :: 
  (nat_lit 447, o286 P) :: (nat_lit 448, boot_o_7 P) :: (nat_lit 450, o288 P) :: (nat_lit 451, o289 P) :: (nat_lit 452, o290 P) :: (nat_lit 453, o291 P) :: (nat_lit 454, o292 P) :: (nat_lit 457, o277 P) :: 
  (nat_lit 464, boot_o_7 P) :: (nat_lit 466, o299 P) :: (nat_lit 467, boot_o_7 P) :: (nat_lit 469, o301 P) :: (nat_lit 470, o302 P) :: (nat_lit 471, boot_o_7 P) :: (nat_lit 473, o303 P) :: (nat_lit 474, boot_o_7 P) :: 
  (nat_lit 476, o305 P) :: (nat_lit 477, o306 P) :: (nat_lit 478, o307 P) :: (nat_lit 479, o308 P) :: (nat_lit 480, o309 P) :: (nat_lit 483, o277 P) :: (nat_lit 490, boot_o_7 P) :: (nat_lit 492, o316 P) :: 
  (nat_lit 493, boot_o_7 P) :: (nat_lit 495, o318 P) :: (nat_lit 496, o319 P) :: (nat_lit 497, boot_o_7 P) :: (nat_lit 499, o320 P) :: (nat_lit 500, boot_o_7 P) :: (nat_lit 502, o322 P) :: (nat_lit 503, o323 P) :: 
  (nat_lit 504, o324 P) :: (nat_lit 505, o325 P) :: (nat_lit 506, o326 P) :: (nat_lit 509, boot_o_7 P) :: (nat_lit 511, o329 P) :: (nat_lit 512, boot_o_7 P) :: (nat_lit 514, o331 P) :: (nat_lit 515, o332 P) :: 
  (nat_lit 516, boot_o_7 P) :: (nat_lit 518, o333 P) :: (nat_lit 519, boot_o_7 P) :: (nat_lit 521, o335 P) :: (nat_lit 522, o336 P) :: (nat_lit 523, boot_o_7 P) :: (nat_lit 525, o337 P) :: (nat_lit 526, boot_o_7 P) :: 
  (nat_lit 528, o339 P) :: (nat_lit 529, o340 P) :: (nat_lit 537, boot_o_7 P) :: (nat_lit 539, o345 P) :: (nat_lit 540, boot_o_7 P) :: (nat_lit 542, o347 P) :: (nat_lit 543, o348 P) :: (nat_lit 544, boot_o_7 P) :: 
  (nat_lit 546, o349 P) :: (nat_lit 547, boot_o_7 P) :: (nat_lit 549, o351 P) :: (nat_lit 550, o352 P) :: (nat_lit 551, boot_o_7 P) :: (nat_lit 554, o354 P) :: (nat_lit 555, o355 P) :: (nat_lit 556, boot_o_7 P) :: 
  (nat_lit 558, o356 P) :: (nat_lit 559, boot_o_7 P) :: (nat_lit 561, o358 P) :: (nat_lit 562, o359 P) :: (nat_lit 563, boot_o_7 P) :: (nat_lit 566, o361 P) :: (nat_lit 567, o362 P) :: (nat_lit 568, o363 P) :: 
  (nat_lit 569, o364 P) :: (nat_lit 570, o365 P) :: (nat_lit 571, o366 P) :: (nat_lit 572, o367 P) :: (nat_lit 575, boot_o_7 P) :: (nat_lit 577, o370 P) :: (nat_lit 578, boot_o_7 P) :: (nat_lit 580, o372 P) :: 
  (nat_lit 581, o373 P) :: (nat_lit 582, boot_o_7 P) :: (nat_lit 584, o374 P) :: (nat_lit 585, boot_o_7 P) :: (nat_lit 587, o376 P) :: (nat_lit 588, o377 P) :: (nat_lit 589, boot_o_7 P) :: (nat_lit 591, o378 P) :: 
  (nat_lit 592, boot_o_7 P) :: (nat_lit 594, o380 P) :: (nat_lit 595, o381 P) :: (nat_lit 596, boot_o_7 P) :: (nat_lit 598, o382 P) :: (nat_lit 599, boot_o_7 P) :: (nat_lit 601, o384 P) :: (nat_lit 602, o385 P) :: []
def keysK : List Addr := 2 :: 3 :: 15 :: 17 :: 18 :: 20 :: 21 :: 22 :: 29 :: 30 :: 31 :: 32 :: 35 :: 42 :: 43 :: 44 :: 47 :: 54 :: 55 :: 56 :: 59 :: 66 :: 67 :: 68 :: 
  71 :: 78 :: 79 :: 80 :: 83 :: 85 :: 86 :: 88 :: 89 :: 90 :: 92 :: 93 :: 95 :: 96 :: 97 :: 99 :: 100 :: 102 :: 103 :: 104 :: 106 :: 107 :: 109 :: 110 :: 
  111 :: 113 :: 114 :: 116 :: 117 :: 118 :: 120 :: 121 :: 123 :: 124 :: 125 :: 127 :: 128 :: 130 :: 131 :: 132 :: 134 :: 135 :: 137 :: 138 :: 139 :: 141 :: 142 :: 144 :: 
  145 :: 146 :: 148 :: 149 :: 151 :: 152 :: 153 :: 155 :: 156 :: 158 :: 159 :: 167 :: 169 :: 170 :: 172 :: 173 :: 174 :: 176 :: 177 :: 179 :: 180 :: 181 :: 182 :: 183 :: 
  184 :: 185 :: 188 :: 195 :: 197 :: 198 :: 200 :: 201 :: 202 :: 204 :: 205 :: 207 :: 208 :: 209 :: 210 :: 211 :: 214 :: 221 :: 223 :: 224 :: 226 :: 227 :: 228 :: 230 :: 
  231 :: 233 :: 234 :: 235 :: 236 :: 237 :: 240 :: 247 :: 249 :: 250 :: 252 :: 253 :: 254 :: 257 :: 258 :: 259 :: 260 :: 261 :: 264 :: 271 :: 273 :: 274 :: 276 :: 277 :: 
  278 :: 280 :: 281 :: 283 :: 284 :: 285 :: 286 :: 287 :: 290 :: 292 :: 293 :: 295 :: 296 :: 304 :: 305 :: 306 :: 307 :: 308 :: 311 :: 318 :: 321 :: 322 :: 323 :: 324 :: 
  325 :: 328 :: 335 :: 337 :: 338 :: 340 :: 341 :: 342 :: 343 :: 344 :: 347 :: 349 :: 350 :: 352 :: 353 :: 354 :: 356 :: 357 :: 359 :: 360 :: 361 :: 363 :: 364 :: 366 :: 
  367 :: 368 :: 370 :: 371 :: 373 :: 374 :: 375 :: 377 :: 378 :: 380 :: 381 :: 382 :: 384 :: 385 :: 387 :: 388 :: 389 :: 391 :: 392 :: 394 :: 395 :: 396 :: 398 :: 399 :: 
  401 :: 402 :: 410 :: 412 :: 413 :: 415 :: 416 :: 417 :: 419 :: 420 :: 422 :: 423 :: 424 :: 425 :: 426 :: 427 :: 428 :: 431 :: 438 :: 440 :: 441 :: 443 :: 444 :: 445 :: 
  447 :: 448 :: 450 :: 451 :: 452 :: 453 :: 454 :: 457 :: 464 :: 466 :: 467 :: 469 :: 470 :: 471 :: 473 :: 474 :: 476 :: 477 :: 478 :: 479 :: 480 :: 483 :: 490 :: 492 :: 
  493 :: 495 :: 496 :: 497 :: 499 :: 500 :: 502 :: 503 :: 504 :: 505 :: 506 :: 509 :: 511 :: 512 :: 514 :: 515 :: 516 :: 518 :: 519 :: 521 :: 522 :: 523 :: 525 :: 526 :: 
  528 :: 529 :: 537 :: 539 :: 540 :: 542 :: 543 :: 544 :: 546 :: 547 :: 549 :: 550 :: 551 :: 554 :: 555 :: 556 :: 558 :: 559 :: 561 :: 562 :: 563 :: 566 :: 567 :: 568 :: 
  569 :: 570 :: 571 :: 572 :: 575 :: 577 :: 578 :: 580 :: 581 :: 582 :: 584 :: 585 :: 587 :: 588 :: 589 :: 591 :: 592 :: 594 :: 595 :: 596 :: 598 :: 599 :: 601 :: 602 :: []
def loose : List Str := Str.ofString "_wall" :: Str.ofString "JugError" :: Str.ofString "BadHouse" :: Str.ofString "BadState" :: Str.ofString "BadMove" :: Str.ofString "BadGoal" :: Str.ofString "MOST_JUGS" :: Str.ofString "MOST_SIZE" :: 
  Str.ofString "is_number" :: Str.ofString "is_jug" :: Str.ofString "held_in" :: Str.ofString "ways_from" :: Str.ofString "measured" :: Str.ofString "MOST_AMOUNT" :: Str.ofString "check_jug" :: Str.ofString "check_jug_goals" :: 
  Str.ofString "check_amount" :: Str.ofString "jugs_in" :: Str.ofString "amounts_in" :: Str.ofString "check_house_has" :: Str.ofString "check_house_has_goals" :: Str.ofString "check_state_of" :: Str.ofString "Goal" :: Str.ofString "Holds" :: 
  Str.ofString "Some" :: Str.ofString "Sum" :: Str.ofString "Whole" :: Str.ofString "check_goal" :: Str.ofString "Answer" :: Str.ofString "Poured" :: Str.ofString "Barred" :: Str.ofString "nearest" :: 
  Str.ofString "moves_to" :: Str.ofString "heights_in" :: Str.ofString "fewest" :: Str.ofString "check_jug_moves" :: Str.ofString "check_house_has_moves" :: Str.ofString "check_house_can_tap" :: Str.ofString "with_amount" :: Str.ofString "Move" :: 
  Str.ofString "Pour" :: Str.ofString "Fill" :: Str.ofString "Empty" :: Str.ofString "MOST_STATES" :: Str.ofString "sizes_in" :: Str.ofString "count_states" :: Str.ofString "pours_among" :: Str.ofString "House" :: 
  Str.ofString "_law_cell_at" :: Str.ofString "_law_draw" :: Str.ofString "_law_common" :: []
def env : Env := { scope := pg.main.scope, locals := mainNs, globals := mainNs, cells := [], code := (.ref 13), frame := some 14 }
abbrev cE : Code := .body (behindTheImports pg) env
abbrev pos0 : Pos := (.mk 0 0 0 0)
abbrev posB : Pos := (.mk 0 0 0 0)
abbrev posQ : Pos := (.mk 0 0 0 0)
abbrev ann : Option Value := (some (.ref 6))

abbrev s0 (w : World) (os : OsState) : Shared := ⟨boot_heap w.params, Array.mk [], boot_drawn, boot_toks, os⟩
theorem pre_ (w : World) (os : OsState) : topGo treeTable pg w 11 ann 12 (s0 w os) (topStub pg) = some (sA w os, ⟨denote treeTable cE, cE, pos0, [topFrame posQ]⟩) := by
  rewrite [Fast.te15667345088766844465, Fast.te14364793385576792824, Fast.te11892475500146522536]
  kernel_rfl
theorem block_ (w : World) (os : OsState) : segRun treeTable pg w 11 ann 1 1 (sA w os) (blockOf (behindTheImports pg) env cE pos0 [topFrame posQ]) = some (.next, (sB w os).abs, cE, posB) := by
  rewrite [Fast.te14374325043358763698, Fast.te14364793385576792824]
  kernel_rfl
abbrev pos_0 : Pos := (.mk 305 0 319 41)
theorem run_0 (w : World) (os : OsState) : segRunT treeTable pg w 11 ann 1 5543 (sB w os) (piecesOf (behindTheImports pg) env cE posB [topFrame posQ]) = some (.next, sC0 w os, cE, pos_0) := by
  rewrite [Fast.te10110043849684766642, Fast.te14364793385576792824]
  kernel_rfl
theorem fin_ (w : World) (os : OsState) : topRun treeTable pg w 11 ann 2 (sC0 w os).abs ⟨doneF .next, cE, pos_0, [topFrame posQ]⟩ = some (sF w os) := by
  rewrite [Fast.te14082659384304107361, Fast.te14364793385576792824]
  kernel_rfl
theorem top_ (w : World) (os : OsState) : topRun treeTable pg w 11 ann (12 + (1 + (5543 + 2))) (s0 w os) (topStub pg) = some (sF w os) := by
  refine go_top (pre_ w os) (piece_block (block_ w os) ?_)
  have h := piece_app (segRun_of (run_0 w os)) (piece_nil (fin_ w os))
  rwa [List.append_nil] at h
def qq : Program := { pg with main := { pg.main with body := [st 61] } }
theorem keys_ (P : Params) : keysK = (KK P).map (·.1) := by kernel_rfl
theorem open_ : ∀ w : World, (fencedOpening treeTable pg w 11210).map (fun s => (s.heap, s.gens, s.drawn, s.toks)) = some (boot_heap w.params, Array.mk [], boot_drawn, boot_toks) :=
  boot_open (by kernel_rfl) (by decide) (fun s => by kernel_rfl)
theorem size_ (w : World) : ((boot_heap w.params).isNs mainGlobals && (Array.mk [] : Array GenState).size == 0, (boot_heap w.params).objs.size, (boot_heap w.params).nsMap mainGlobals "__annotations__") = (true, 11, ann) := by kernel_rfl
abbrev rr : RowW := OpenRow.toRowW (OpenLaw.row PySem.Challenge.rw_jughouse_k06_whole_two_jugs)
def Xt (s : Shared) : Bool := xlAt qq [] s && recOk (RowW.records rr) s
theorem look1 (w : World) (os : OsState) : (staticsOk (importedModules pg.main.body) (boot_heap w.params) (hF w.params) && namesBound pg (hF w.params) && gensDone (sF w os) && laidKept (boot_heap w.params) (hF w.params)) = true := by kernel_rfl
theorem look2 (w : World) (os : OsState) : openSeen qq loose (importedModules pg.main.body) Xt true (sF w os) = openGood qq loose := by
  rewrite [Fast.te4187177175401517315]
  kernel_rfl
theorem look3 (w : World) (os : OsState) : Hook.obs (kHook KK keysK keys_) (sF w os) = Hook.val (kHook KK keysK keys_) w := by kernel_rfl
theorem left_ : LeftO pg qq loose Xt (Hook.obs (kHook KK keysK keys_)) (Hook.val (kHook KK keysK keys_)) 11210 :=
  LeftO.of_pieces open_ size_ top_ (by decide) (fun w => funext fun os => looks_pair (look1 w os) (looks_pair (look2 w os) (look3 w os)))
end Hd
end
open PySem PySem.W PyProof.Rows
set_option maxRecDepth 100000 in
set_option maxHeartbeats 0 in
theorem PySem.Challenge.cw_jughouse_k06_whole_two_jugs_holds : PySem.Challenge.rw_jughouse_k06_whole_two_jugs.Holds := by
  w_on; o_law
  refine holds_open (N := 11210)
    (q := Hd.qq) (loose := Hd.loose) (Xt := Hd.Xt)
    (XP := XL Hd.qq []) (YP := Hook.says (kHook Hd.KK Hd.keysK Hd.keys_))
    Hd.left_ (Hook.of (kHook Hd.KK Hd.keysK Hd.keys_)) (Hook.keeps (kHook Hd.KK Hd.keysK Hd.keys_))
    (fun s e => xl_of s (Bool.and_eq_true_iff.mp e).1)
    XL.keeps (by rfl) (by rfl) (by rfl)
    (fun s e => recFacts_of (Bool.and_eq_true_iff.mp e).2)
    (by rfl) (by assumption) (by decide +kernel)
    ⟨rfl, rfl, rfl, rfl, rfl, by decide +kernel⟩ ?hw ?hc
  (case hw => w_witness2)
  k_fill
  refine Jug.walk (l := PySem.Challenge.rw_jughouse_k06_whole_two_jugs) rfl rfl (fun w h Y => PySem.W.kIn_of Y) ?F
  case F =>
    intro w mg fa h KX G hmg
    refine' Jug.all_mk KX G hmg ?z_isinstance ?z_int ?z_bool ?z_tuple ?z_list ?z_len ?z_zip ?z_range ?z_min ?z_str ?z_sum ?z_max ?z_sorted ?z_reversed ?z_MOST_JUGS ?z_MOST_SIZE ?z_MOST_STATES ?z_MOST_AMOUNT ?a_Pour ?pg_Pour ?hd_Pour ?po_Pour ?sa_Pour ?mk_Pour ?kc_Pour ?n_Pour_one ?n_Pour_other ?ha_Pour ?hm_Pour ?a_Fill ?pg_Fill ?hd_Fill ?po_Fill ?sa_Fill ?mk_Fill ?kc_Fill ?n_Fill_jug ?ha_Fill ?hm_Fill ?a_Empty ?pg_Empty ?hd_Empty ?po_Empty ?sa_Empty ?mk_Empty ?kc_Empty ?n_Empty_jug ?ha_Empty ?hm_Empty ?a_House ?pg_House ?hd_House ?po_House ?sa_House ?mk_House ?kc_House ?n_House_jug_sizes ?n_House_tap ?a_Holds ?pg_Holds ?hd_Holds ?po_Holds ?sa_Holds ?mk_Holds ?kc_Holds ?n_Holds_jug ?n_Holds_many ?ha_Holds ?hm_Holds ?a_Some ?pg_Some ?hd_Some ?po_Some ?sa_Some ?mk_Some ?kc_Some ?n_Some_many ?ha_Some ?hm_Some ?a_Sum ?pg_Sum ?hd_Sum ?po_Sum ?sa_Sum ?mk_Sum ?kc_Sum ?n_Sum_jugs ?n_Sum_many ?ha_Sum ?hm_Sum ?a_Whole ?pg_Whole ?hd_Whole ?po_Whole ?sa_Whole ?mk_Whole ?kc_Whole ?n_Whole_state ?ha_Whole ?hm_Whole ?a_Goal ?pg_Goal ?hd_Goal ?po_Goal ?sa_Goal ?a_Poured ?pg_Poured ?hd_Poured ?po_Poured ?sa_Poured ?mk_Poured ?kc_Poured ?n_Poured_pours ?n_Poured_heights ?ha_Poured ?hm_Poured ?a_Barred ?pg_Barred ?hd_Barred ?po_Barred ?sa_Barred ?mk_Barred ?kc_Barred ?n_Barred_among ?ha_Barred ?hm_Barred ?hn ?htk ?k_Fill_Pour ?k_Empty_Pour ?k_Empty_Fill ?k_Holds_Some ?k_Holds_Sum ?k_Holds_Whole ?k_Some_Holds ?k_Some_Sum ?k_Some_Whole ?k_Sum_Holds ?k_Sum_Some ?k_Sum_Whole ?k_Whole_Holds ?k_Whole_Some ?k_Whole_Sum ?k_Holds_Goal ?k_Some_Goal ?k_Sum_Goal ?k_Whole_Goal ?a_is_number ?l_is_number ?c_is_number ?kp_is_number ?a_is_jug ?l_is_jug ?c_is_jug ?kp_is_jug ?a_sizes_House ?i_sizes ?l_sizes ?c_sizes ?kp_sizes ?a_held_in ?l_held_in ?c_held_in ?kp_held_in ?a_with_amount ?l_with_amount ?c_with_amount ?kp_with_amount ?a_check_jug ?l_check_jug ?c_check_jug ?kp_check_jug ?a_check_house_has ?l_check_house_has ?c_check_house_has ?kp_check_house_has ?a_check_house_can_tap ?l_check_house_can_tap ?c_check_house_can_tap ?kp_check_house_can_tap ?a_Pi_Pour ?i_Pi ?l_Pi ?c_Pi ?kp_Pi ?a_Fi_Fill ?i_Fi ?l_Fi ?c_Fi ?kp_Fi ?a_Ei_Empty ?i_Ei ?l_Ei ?c_Ei ?kp_Ei ?a_Ph_Pour ?i_Ph ?l_Ph ?c_Ph ?kp_Ph ?a_Fh_Fill ?i_Fh ?l_Fh ?c_Fh ?kp_Fh ?a_Eh_Empty ?i_Eh ?l_Eh ?c_Eh ?kp_Eh ?a_done_Pour ?a_done_Fill ?a_done_Empty ?i_done ?l_done ?c_done ?kp_done ?a_count_states ?l_count_states ?c_count_states ?kp_count_states ?a_sizes_in ?l_sizes_in ?c_sizes_in ?kp_sizes_in ?a_Hi_House ?i_Hi ?l_Hi ?c_Hi ?kp_Hi ?a_empty_House ?i_empty ?l_empty ?c_empty ?kp_empty ?a_pours_among ?l_pours_among ?c_pours_among ?kp_pours_among ?a_moves_House ?i_moves ?l_moves ?c_moves ?kp_moves ?a_ways ?l_ways ?c_ways ?kp_ways ?a_measured ?l_measured ?c_measured ?kp_measured ?a_check_jug_g ?l_check_jug_g ?c_check_jug_g ?kp_check_jug_g ?a_check_house_has_g ?l_check_house_has_g ?c_check_house_has_g ?kp_check_house_has_g ?a_check_amount ?l_check_amount ?c_check_amount ?kp_check_amount ?a_check_state_of ?l_check_state_of ?c_check_state_of ?kp_check_state_of ?a_Si_Some ?i_Si ?l_Si ?c_Si ?kp_Si ?a_Om_Holds ?i_Om ?l_Om ?c_Om ?kp_Om ?a_Sm_Some ?i_Sm ?l_Sm ?c_Sm ?kp_Sm ?a_Um_Sum ?i_Um ?l_Um ?c_Um ?kp_Um ?a_Wm_Whole ?i_Wm ?l_Wm ?c_Wm ?kp_Wm ?a_come_Holds ?a_come_Some ?a_come_Sum ?a_come_Whole ?i_come ?l_come ?c_come ?kp_come ?a_check_goal ?l_check_goal ?c_check_goal ?kp_check_goal ?a_nearest ?l_nearest ?c_nearest ?kp_nearest ?a_moves_to ?l_moves_to ?c_moves_to ?kp_moves_to ?a_heights ?l_heights ?c_heights ?kp_heights ?a_Di_Poured ?i_Di ?l_Di ?c_Di ?kp_Di ?a_Bi_Barred ?i_Bi ?l_Bi ?c_Bi ?kp_Bi ?a_fewest ?l_fewest ?c_fewest ?kp_fewest ?a_cell_at ?l_cell_at ?c_cell_at ?kp_cell_at ?a_draw ?l_draw ?c_draw ?kp_draw ?a_common ?l_common ?c_common ?kp_common ?a_law ?l_law ?c_law ?kp_law
    (case z_isinstance => k_is)
    (case z_int => k_is)
    (case z_bool => k_is)
    (case z_tuple => k_is)
    (case z_list => k_is)
    (case z_len => k_is)
    (case z_zip => k_is)
    (case z_range => k_is)
    (case z_min => k_is)
    (case z_str => k_is)
    (case z_sum => k_is)
    (case z_max => k_is)
    (case z_sorted => k_is)
    (case z_reversed => k_is)
    (case z_MOST_JUGS => k_is)
    (case z_MOST_SIZE => k_is)
    (case z_MOST_STATES => k_is)
    (case z_MOST_AMOUNT => k_is)
    (case a_Pour => k_is)
    (case pg_Pour => k_is)
    (case hd_Pour => k_is)
    (case po_Pour => k_is)
    (case sa_Pour => k_is)
    (case mk_Pour => k_is)
    (case kc_Pour => k_is)
    (case n_Pour_one => k_is)
    (case n_Pour_other => k_is)
    (case ha_Pour => k_is)
    (case hm_Pour => k_is)
    (case a_Fill => k_is)
    (case pg_Fill => k_is)
    (case hd_Fill => k_is)
    (case po_Fill => k_is)
    (case sa_Fill => k_is)
    (case mk_Fill => k_is)
    (case kc_Fill => k_is)
    (case n_Fill_jug => k_is)
    (case ha_Fill => k_is)
    (case hm_Fill => k_is)
    (case a_Empty => k_is)
    (case pg_Empty => k_is)
    (case hd_Empty => k_is)
    (case po_Empty => k_is)
    (case sa_Empty => k_is)
    (case mk_Empty => k_is)
    (case kc_Empty => k_is)
    (case n_Empty_jug => k_is)
    (case ha_Empty => k_is)
    (case hm_Empty => k_is)
    (case a_House => k_is)
    (case pg_House => k_is)
    (case hd_House => k_is)
    (case po_House => k_is)
    (case sa_House => k_is)
    (case mk_House => k_is)
    (case kc_House => k_is)
    (case n_House_jug_sizes => k_is)
    (case n_House_tap => k_is)
    (case a_Holds => k_is)
    (case pg_Holds => k_is)
    (case hd_Holds => k_is)
    (case po_Holds => k_is)
    (case sa_Holds => k_is)
    (case mk_Holds => k_is)
    (case kc_Holds => k_is)
    (case n_Holds_jug => k_is)
    (case n_Holds_many => k_is)
    (case ha_Holds => k_is)
    (case hm_Holds => k_is)
    (case a_Some => k_is)
    (case pg_Some => k_is)
    (case hd_Some => k_is)
    (case po_Some => k_is)
    (case sa_Some => k_is)
    (case mk_Some => k_is)
    (case kc_Some => k_is)
    (case n_Some_many => k_is)
    (case ha_Some => k_is)
    (case hm_Some => k_is)
    (case a_Sum => k_is)
    (case pg_Sum => k_is)
    (case hd_Sum => k_is)
    (case po_Sum => k_is)
    (case sa_Sum => k_is)
    (case mk_Sum => k_is)
    (case kc_Sum => k_is)
    (case n_Sum_jugs => k_is)
    (case n_Sum_many => k_is)
    (case ha_Sum => k_is)
    (case hm_Sum => k_is)
    (case a_Whole => k_is)
    (case pg_Whole => k_is)
    (case hd_Whole => k_is)
    (case po_Whole => k_is)
    (case sa_Whole => k_is)
    (case mk_Whole => k_is)
    (case kc_Whole => k_is)
    (case n_Whole_state => k_is)
    (case ha_Whole => k_is)
    (case hm_Whole => k_is)
    (case a_Goal => k_is)
    (case pg_Goal => k_is)
    (case hd_Goal => k_is)
    (case po_Goal => k_is)
    (case sa_Goal => k_is)
    (case a_Poured => k_is)
    (case pg_Poured => k_is)
    (case hd_Poured => k_is)
    (case po_Poured => k_is)
    (case sa_Poured => k_is)
    (case mk_Poured => k_is)
    (case kc_Poured => k_is)
    (case n_Poured_pours => k_is)
    (case n_Poured_heights => k_is)
    (case ha_Poured => k_is)
    (case hm_Poured => k_is)
    (case a_Barred => k_is)
    (case pg_Barred => k_is)
    (case hd_Barred => k_is)
    (case po_Barred => k_is)
    (case sa_Barred => k_is)
    (case mk_Barred => k_is)
    (case kc_Barred => k_is)
    (case n_Barred_among => k_is)
    (case ha_Barred => k_is)
    (case hm_Barred => k_is)
    (case hn => k_is)
    (case htk => k_is)
    (case k_Fill_Pour => kit_is)
    (case k_Empty_Pour => kit_is)
    (case k_Empty_Fill => kit_is)
    (case k_Holds_Some => kit_is)
    (case k_Holds_Sum => kit_is)
    (case k_Holds_Whole => kit_is)
    (case k_Some_Holds => kit_is)
    (case k_Some_Sum => kit_is)
    (case k_Some_Whole => kit_is)
    (case k_Sum_Holds => kit_is)
    (case k_Sum_Some => kit_is)
    (case k_Sum_Whole => kit_is)
    (case k_Whole_Holds => kit_is)
    (case k_Whole_Some => kit_is)
    (case k_Whole_Sum => kit_is)
    (case k_Holds_Goal => kit_is)
    (case k_Some_Goal => kit_is)
    (case k_Sum_Goal => kit_is)
    (case k_Whole_Goal => kit_is)
    (case a_is_number => k_is)
    (case l_is_number => k_is)
    (case c_is_number => k_is)
    (case kp_is_number => k_is)
    (case a_is_jug => k_is)
    (case l_is_jug => k_is)
    (case c_is_jug => k_is)
    (case kp_is_jug => k_is)
    (case a_sizes_House => k_is)
    (case i_sizes => k_is)
    (case l_sizes => k_is)
    (case c_sizes => k_is)
    (case kp_sizes => k_is)
    (case a_held_in => k_is)
    (case l_held_in => k_is)
    (case c_held_in => k_is)
    (case kp_held_in => k_is)
    (case a_with_amount => k_is)
    (case l_with_amount => k_is)
    (case c_with_amount => k_is)
    (case kp_with_amount => k_is)
    (case a_check_jug => k_is)
    (case l_check_jug => k_is)
    (case c_check_jug => k_is)
    (case kp_check_jug => k_is)
    (case a_check_house_has => k_is)
    (case l_check_house_has => k_is)
    (case c_check_house_has => k_is)
    (case kp_check_house_has => k_is)
    (case a_check_house_can_tap => k_is)
    (case l_check_house_can_tap => k_is)
    (case c_check_house_can_tap => k_is)
    (case kp_check_house_can_tap => k_is)
    (case a_Pi_Pour => k_is)
    (case i_Pi => k_is)
    (case l_Pi => k_is)
    (case c_Pi => k_is)
    (case kp_Pi => k_is)
    (case a_Fi_Fill => k_is)
    (case i_Fi => k_is)
    (case l_Fi => k_is)
    (case c_Fi => k_is)
    (case kp_Fi => k_is)
    (case a_Ei_Empty => k_is)
    (case i_Ei => k_is)
    (case l_Ei => k_is)
    (case c_Ei => k_is)
    (case kp_Ei => k_is)
    (case a_Ph_Pour => k_is)
    (case i_Ph => k_is)
    (case l_Ph => k_is)
    (case c_Ph => k_is)
    (case kp_Ph => k_is)
    (case a_Fh_Fill => k_is)
    (case i_Fh => k_is)
    (case l_Fh => k_is)
    (case c_Fh => k_is)
    (case kp_Fh => k_is)
    (case a_Eh_Empty => k_is)
    (case i_Eh => k_is)
    (case l_Eh => k_is)
    (case c_Eh => k_is)
    (case kp_Eh => k_is)
    (case a_done_Pour => k_is)
    (case a_done_Fill => k_is)
    (case a_done_Empty => k_is)
    (case i_done => k_is)
    (case l_done => k_is)
    (case c_done => k_is)
    (case kp_done => k_is)
    (case a_count_states => k_is)
    (case l_count_states => k_is)
    (case c_count_states => k_is)
    (case kp_count_states => k_is)
    (case a_sizes_in => k_is)
    (case l_sizes_in => k_is)
    (case c_sizes_in => k_is)
    (case kp_sizes_in => k_is)
    (case a_Hi_House => k_is)
    (case i_Hi => k_is)
    (case l_Hi => k_is)
    (case c_Hi => k_is)
    (case kp_Hi => k_is)
    (case a_empty_House => k_is)
    (case i_empty => k_is)
    (case l_empty => k_is)
    (case c_empty => k_is)
    (case kp_empty => k_is)
    (case a_pours_among => k_is)
    (case l_pours_among => k_is)
    (case c_pours_among => k_is)
    (case kp_pours_among => k_is)
    (case a_moves_House => k_is)
    (case i_moves => k_is)
    (case l_moves => k_is)
    (case c_moves => k_is)
    (case kp_moves => k_is)
    (case a_ways => k_is)
    (case l_ways => k_is)
    (case c_ways => k_is)
    (case kp_ways => k_is)
    (case a_measured => k_is)
    (case l_measured => k_is)
    (case c_measured => k_is)
    (case kp_measured => k_is)
    (case a_check_jug_g => k_is)
    (case l_check_jug_g => k_is)
    (case c_check_jug_g => k_is)
    (case kp_check_jug_g => k_is)
    (case a_check_house_has_g => k_is)
    (case l_check_house_has_g => k_is)
    (case c_check_house_has_g => k_is)
    (case kp_check_house_has_g => k_is)
    (case a_check_amount => k_is)
    (case l_check_amount => k_is)
    (case c_check_amount => k_is)
    (case kp_check_amount => k_is)
    (case a_check_state_of => k_is)
    (case l_check_state_of => k_is)
    (case c_check_state_of => k_is)
    (case kp_check_state_of => k_is)
    (case a_Si_Some => k_is)
    (case i_Si => k_is)
    (case l_Si => k_is)
    (case c_Si => k_is)
    (case kp_Si => k_is)
    (case a_Om_Holds => k_is)
    (case i_Om => k_is)
    (case l_Om => k_is)
    (case c_Om => k_is)
    (case kp_Om => k_is)
    (case a_Sm_Some => k_is)
    (case i_Sm => k_is)
    (case l_Sm => k_is)
    (case c_Sm => k_is)
    (case kp_Sm => k_is)
    (case a_Um_Sum => k_is)
    (case i_Um => k_is)
    (case l_Um => k_is)
    (case c_Um => k_is)
    (case kp_Um => k_is)
    (case a_Wm_Whole => k_is)
    (case i_Wm => k_is)
    (case l_Wm => k_is)
    (case c_Wm => k_is)
    (case kp_Wm => k_is)
    (case a_come_Holds => k_is)
    (case a_come_Some => k_is)
    (case a_come_Sum => k_is)
    (case a_come_Whole => k_is)
    (case i_come => k_is)
    (case l_come => k_is)
    (case c_come => k_is)
    (case kp_come => k_is)
    (case a_check_goal => k_is)
    (case l_check_goal => k_is)
    (case c_check_goal => k_is)
    (case kp_check_goal => k_is)
    (case a_nearest => k_is)
    (case l_nearest => k_is)
    (case c_nearest => k_is)
    (case kp_nearest => k_is)
    (case a_moves_to => k_is)
    (case l_moves_to => k_is)
    (case c_moves_to => k_is)
    (case kp_moves_to => k_is)
    (case a_heights => k_is)
    (case l_heights => k_is)
    (case c_heights => k_is)
    (case kp_heights => k_is)
    (case a_Di_Poured => k_is)
    (case i_Di => k_is)
    (case l_Di => k_is)
    (case c_Di => k_is)
    (case kp_Di => k_is)
    (case a_Bi_Barred => k_is)
    (case i_Bi => k_is)
    (case l_Bi => k_is)
    (case c_Bi => k_is)
    (case kp_Bi => k_is)
    (case a_fewest => k_is)
    (case l_fewest => k_is)
    (case c_fewest => k_is)
    (case kp_fewest => k_is)
    (case a_cell_at => k_is)
    (case l_cell_at => k_is)
    (case c_cell_at => k_is)
    (case kp_cell_at => k_is)
    (case a_draw => k_is)
    (case l_draw => k_is)
    (case c_draw => k_is)
    (case kp_draw => k_is)
    (case a_common => k_is)
    (case l_common => k_is)
    (case c_common => k_is)
    (case kp_common => k_is)
    (case a_law => k_is)
    (case l_law => k_is)
    (case c_law => k_is)
    (case kp_law => k_is)

