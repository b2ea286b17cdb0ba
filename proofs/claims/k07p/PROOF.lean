import PyProof.Rows.All
import Wide.All
import OpenK.AllK
import Wide.FinOn
import Lean
import PyProof.EqAt
import PyProof.EqKinds
import PyProof.TupleCall
import PyProof.NeKinds
import PyProof.Rows.ZipGen
import KE.KIntText
import PyProof.ListRange
import KE.LcSums
import PyProof.Rows.SetFrom
import PyProof.SetRoads
import OpenK.KOwn
import KE.KIsAll
import PyProof.ExcAttrAll.ValueError
import KE.KNest
import KE.KDictList
import KE.KDictSum
import KE.KRevIter
import KE.KRangeStep
import KE.KSorted
import KE.KItemsList
import PyProof.Rows.MinMaxN
import PyProof.Rows.Range3
import KE.KSortAsk
import KE.KSortTup
import PyProof.SliceStr
import PyProof.StrWalks
import PyProof.StrLawsTight
import KE.IntTextLaws
import PySem.Challenge.RW_jughouse_k07_written
set_option Elab.async false
set_option linter.all false
set_option maxRecDepth 100000
/-! THE HAND LAYER, for ints, bools, texts, own classes, LISTS and tuples (index, slices, in, append, pop ..), calls, loops. Paste it whole ahead of your own text; what your proof does not reach may be deleted. -/
namespace L2
open PySem PySem.Spec PyProof.Rows

/-- a key: an int or a str -/
abbrev Key := Sum Int Str
def keyIs : Key → Value → Bool
  | .inl k, v => Value.isInt k v
  | .inr x, v => Value.isStrOf x v
def keyH (w : World) : Key → Int
  | .inl k => hashInt k
  | .inr x => hashStr w x
theorem keyIs_shape : ∀ {k : Key} {v : Value}, keyIs k v = true → (∃ i t, k = Sum.inl i ∧ v = Value.int i t) ∨ (∃ x t, k = Sum.inr x ∧ v = Value.str x t)
  | .inl i, v, h => by
    obtain ⟨t, e⟩ := Value.isInt_shape (k := i) (v := v) h
    exact .inl ⟨i, t, rfl, e⟩
  | .inr x, v, h => by
    obtain ⟨t, e⟩ := Value.isStrOf_shape (x := x) (v := v) h
    exact .inr ⟨x, t, rfl, e⟩
theorem key_ll (a b : Int) : decide ((Sum.inl a : Key) = Sum.inl b) = (a == b) := by
  by_cases e : a = b
  · subst e; simp
  · have h : ¬ (Sum.inl a : Key) = Sum.inl b := fun q => e (Sum.inl.inj q)
    rw [decide_eq_false h]
    exact (beq_eq_false_iff_ne.mpr e).symm
theorem key_rr (a b : Str) : decide ((Sum.inr a : Key) = Sum.inr b) = decide (a = b) := by
  by_cases e : a = b
  · subst e; simp
  · have h : ¬ (Sum.inr a : Key) = Sum.inr b := fun q => e (Sum.inr.inj q)
    rw [decide_eq_false h, decide_eq_false e]
theorem key_lr (a : Int) (b : Str) : decide ((Sum.inl a : Key) = Sum.inr b) = false := decide_eq_false (fun q => nomatch q)
theorem key_rl (a : Str) (b : Int) : decide ((Sum.inr a : Key) = Sum.inl b) = false := decide_eq_false (fun q => nomatch q)

def mixKind (prog : Program) (w : World) : PySem.KeyKind prog w Key where
  is := keyIs
  hash := keyH w
  inj := fun v a b ha hb => by
    rcases keyIs_shape ha with ⟨i, t, rfl, rfl⟩ | ⟨x, t, rfl, rfl⟩
    · rcases keyIs_shape hb with ⟨j, u, rfl, e⟩ | ⟨y, u, rfl, e⟩
      · injection e with e1 _; rw [e1]
      · exact nomatch e
    · rcases keyIs_shape hb with ⟨j, u, rfl, e⟩ | ⟨y, u, rfl, e⟩
      · exact nomatch e
      · injection e with e1 _; rw [e1]
  byValue := fun k v h => by
    rcases keyIs_shape h with ⟨i, t, rfl, rfl⟩ | ⟨x, t, rfl, rfl⟩ <;> rfl
  pyHash := fun hv h => by
    rcases keyIs_shape hv with ⟨i, t, rfl, rfl⟩ | ⟨x, t, rfl, rfl⟩
    · exact wpAny_pyHash_int h
    · exact wpAny_pyHash_str h
  eqBool := fun hu hv h => by
    rcases keyIs_shape hu with ⟨i, t, rfl, rfl⟩ | ⟨x, t, rfl, rfl⟩
    · rcases keyIs_shape hv with ⟨j, u, rfl, rfl⟩ | ⟨y, u, rfl, rfl⟩
      · rw [key_ll] at h; exact wpAny_eqBool_int h
      · rw [key_lr] at h; exact SeqAt.EqAt.int_str i t y u _ _ _ _ h
    · rcases keyIs_shape hv with ⟨j, u, rfl, rfl⟩ | ⟨y, u, rfl, rfl⟩
      · rw [key_rl] at h; exact SeqAt.EqAt.str_int x t j u _ _ _ _ h
      · rw [key_rr] at h; exact wpAny_eqBool_str h
  «strs» := fun k x t v h => by
    rcases keyIs_shape h with ⟨i, u, rfl, e⟩ | ⟨y, u, rfl, e⟩
    · exact nomatch e
    · injection e with e1 _
      subst e1
      cases v <;> rfl

end L2

namespace L2
open PySem PySem.Spec PyProof.Rows

/-- a value, without the heap -/
inductive V where
  | non | bl (b : Bool) | int (i : Int) | str (x : Str) | byt (b : Array UInt8) | flt (b : UInt64) | ref (a : Addr) | ty (n : String)
  deriving DecidableEq

def RelV : V → Value → Prop
  | .non, u => u = Value.none
  | .bl b, u => u = Value.bool b
  | .int i, u => ∃ t, u = Value.int i t
  | .str x, u => ∃ t, u = Value.str x t
  | .byt b, u => ∃ t, u = Value.bytes b t
  | .flt b, u => ∃ t, u = Value.float b t
  | .ref a, u => u = Value.ref a
  | .ty n, u => u = Value.type n

abbrev Vals : List V → List Value → Prop := Paired RelV
theorem Vals.length {xs : List V} {us : List Value} (r : Vals xs us) : xs.length = us.length := Paired.length r
theorem Vals.get : ∀ {xs : List V} {us : List Value} {i : Nat} {x : V}, Vals xs us → xs[i]? = some x → ∃ u, us[i]? = some u ∧ RelV x u
  | _, _, _, _, .nil, e => by simp at e
  | _, _, 0, _, .cons r _, e => by simp at e; subst e; exact ⟨_, rfl, r⟩
  | _, _, i + 1, x, .cons _ t, e => by
    obtain ⟨u, h1, h2⟩ := Vals.get (i := i) (x := x) t (by simpa using e)
    exact ⟨u, by simpa using h1, h2⟩
theorem Vals.append : ∀ {xs ys : List V} {us ws : List Value}, Vals xs us → Vals ys ws → Vals (xs ++ ys) (us ++ ws)
  | _, _, _, _, .nil, s => s
  | _, _, _, _, .cons r t, s => .cons r (Vals.append t s)
theorem Vals.take : ∀ {xs : List V} {us : List Value} (n : Nat), Vals xs us → Vals (xs.take n) (us.take n)
  | _, _, 0, _ => .nil
  | _, _, _ + 1, .nil => .nil
  | _, _, n + 1, .cons r t => .cons r (Vals.take n t)
theorem Vals.drop : ∀ {xs : List V} {us : List Value} (n : Nat), Vals xs us → Vals (xs.drop n) (us.drop n)
  | _, _, 0, r => r
  | _, _, _ + 1, .nil => .nil
  | _, _, n + 1, .cons _ t => Vals.drop n t

def RelO : Option V → Option Value → Prop
  | some v, some u => RelV v u
  | none, none => True
  | _, _ => False
def KV {κ : Type} : List (κ × V) → List (κ × Value) → Prop := Paired fun (p : κ × V) (q : κ × Value) => p.1 = q.1 ∧ RelV p.2 q.2

/-- a key of a dict (00_mix): an int or a text -/
def kV : Key → V
  | .inl i => .int i
  | .inr x => .str x

/-- what stands at a tracked address -/
inductive HO where
  /-- a list -/
  | lst (xs : List V)
  /-- a tuple (never changes) -/
  | tup (xs : List V)
  /-- a dict whose keys are ints and texts; one whose keys are tuples of ints and texts (the empty one is both) -/
  | dK (kvs : List (Key × V)) | dT (kvs : List (List Key × V))
  /-- a set of ints: its members, its size -/
  | set (S : Int → Bool) (n : Nat)
  /-- an instance of the class at C, its dict at dx, its attributes -/
  | ins (C dx : Addr) (fs : List (Str × V))
  /-- the dict of the instance at x -/
  | own (x : Addr)
  /-- the dict of an exception -/
  | xd (fs : List (Str × V))
  /-- a bound method, f of x -/
  | met (f x : Addr)
  /-- a range object lo, lo + 1, .. below hi -/
  | rng (lo hi : Int)
  /-- a thing that is known to the object (the script; a dict while a loop walks it): read, never written while it is so -/
  | frz (o : Obj) (u : HO)
  /-- a code object's table -/
  | tbl (ps : Array Value)
  /-- any other thing, by what is true of its one object (a def of one's own: SetO a S n := HO.ext fun h => ..) -/
  | ext (φ : Heap → Prop)

abbrev Hp := Addr → Option HO
def upd (H : Hp) (a : Addr) (o : HO) : Hp := fun b => if b = a then some o else H b
theorem upd_same {H : Hp} {a : Addr} {o : HO} : upd H a o a = some o := by unfold upd; rw [if_pos rfl]
theorem upd_ne {H : Hp} {a b : Addr} {o : HO} (h : b ≠ a) : upd H a o b = H b := by unfold upd; rw [if_neg h]
theorem ne_of_none {H : Hp} {a b : Addr} {o : HO} (h : H a = some o) (h' : H b = none) : a ≠ b := by
  intro e; subst e; rw [h] at h'; cases h'

section
variable (P : Program) (w : World)
def ObjOk (H : Hp) (h : Heap) (a : Addr) : HO → Prop
  | .lst xs => xs.length ≤ sizeLine ∧ ∃ (its : List Value) (n : Nat), Vals xs its ∧ h.get? a = some { cls := .type "list", data := .seq its.toArray n }
  | .tup xs => xs.length ≤ sizeLine ∧ ∃ its : List Value, Vals xs its ∧ IsTup h a its.toArray
  | .dK kvs => kvs.length ≤ sizeLine ∧ (a == sysModules) = false ∧ ∃ vs, KV kvs vs ∧ h.DictOf (mixKind P w) a vs
  | .dT kvs => kvs.length ≤ sizeLine ∧ (a == sysModules) = false ∧ ∃ xs : List (List Key × Addr × Value),
      Paired (fun (p : List Key × V) (q : List Key × Addr × Value) => p.1 = q.1 ∧ H q.2.1 = some (.tup (p.1.map kV)) ∧ RelV p.2 q.2.2) kvs xs ∧
      ∃ o es ep, h.get? a = some o ∧ o.ExactDict ∧ o.data = .dict es ep ∧ es.toList = xs.map (entryOfKey (tupleKind (mixKind P w))) ∧ (xs.map (·.1)).Nodup
  | .set S n => h.SetOf (intKind P w) a S n
  | .ins C dx fs => H dx = some (.own a) ∧ fs.length ≤ 1000 ∧ dx ≠ a ∧ h.get? a = some (PySem.W.instObj C dx) ∧
      ∃ mA, h.Ns1 dx mA ∧ (∀ f, RelO (fs.lookup f) (mA f)) ∧ PySem.Within mA (fs.map (·.1))
  | .own _ => ∃ o, h.get? a = some o
  | .xd fs => ∃ mA, h.Ns1 a mA ∧ ∀ f, RelO (fs.lookup f) (mA f)
  | .rng lo hi => ∃ t u v, h.get? a = some { cls := .type "range", data := .fields #[.int lo t, .int hi u, .int 1 v] }
  | .frz o u => h.get? a = some o ∧ ObjOk H h a u
  | .tbl ps => h.get? a = some { cls := .none, data := .fields ps }
  | .met f x => h.get? a = some (PySem.W.methodObj (.ref f) (.ref x))
  | .ext φ => φ h ∧ (∃ o, h.get? a = some o) ∧ ∀ h1 h2 : Heap, φ h1 → (∀ o, h1.get? a = some o → h2.get? a = some o) → φ h2
/-- the abstract heap is held -/
def HOk (H : Hp) (h : Heap) : Prop := ∀ a o, H a = some o → ObjOk P w H h a o
end

section
variable {P : Program} {w : World} {H H' : Hp} {h h' : Heap} {a : Addr} {o : HO}
theorem ObjOk.lt (x : ObjOk P w H h a o) : a < h.objs.size := by
  cases o with
  | lst xs => obtain ⟨_, _, _, _, e⟩ := x; exact Heap.lt_size e
  | tup xs => obtain ⟨_, _, _, p⟩ := x; exact p.lt
  | dK kvs => obtain ⟨_, _, _, _, o, _, _, e, _⟩ := x; exact Heap.lt_size e
  | dT kvs => obtain ⟨_, _, _, _, o, _, _, e, _⟩ := x; exact Heap.lt_size e
  | set S n => obtain ⟨o, _, _, _, e, _⟩ := x; exact Heap.lt_size e
  | ins C dx fs => obtain ⟨_, _, _, e, _⟩ := x; exact Heap.lt_size e
  | own y => obtain ⟨_, e⟩ := x; exact Heap.lt_size e
  | xd fs => obtain ⟨_, ⟨_, _, _, e, _⟩, _⟩ := x; exact Heap.lt_size e
  | rng lo hi => obtain ⟨_, _, _, e⟩ := x; exact Heap.lt_size e
  | frz ob u => obtain ⟨e, _⟩ := x; exact Heap.lt_size e
  | tbl ps => exact Heap.lt_size (show h.get? a = some _ from x)
  | met f y => exact Heap.lt_size (show h.get? a = some _ from x)
  | ext φ => obtain ⟨_, ⟨_, e⟩, _⟩ := x; exact Heap.lt_size e
theorem Paired.mapP {α β : Type} {F G : α → β → Prop} : ∀ {l₁ : List α} {l₂ : List β}, Paired F l₁ l₂ → (∀ a b, F a b → G a b) → Paired G l₁ l₂
  | _, _, .nil, _ => .nil
  | _, _, .cons r t, f => .cons (f _ _ r) (Paired.mapP t f)
/-- what an object's description leans on: its own object, its own dict, the tuples -/
theorem ObjOk.stay (x : ObjOk P w H h a o) (k : ∀ b u, (b = a ∨ H b = some (.own a)) → h.get? b = some u → h'.get? b = some u)
    (ho : ∀ b, H b = some (.own a) → H' b = some (.own a)) (ht : ∀ b xs, H b = some (.tup xs) → H' b = some (.tup xs)) : ObjOk P w H' h' a o := by
  induction o with
  | lst xs => obtain ⟨z, its, n, r, e⟩ := x; exact ⟨z, its, n, r, k _ _ (.inl rfl) e⟩
  | tup xs => obtain ⟨z, its, r, ob, e, c⟩ := x; exact ⟨z, its, r, ob, k _ _ (.inl rfl) e, c⟩
  | dK kvs => obtain ⟨z, y, vs, r, ob, es, ep, e, c⟩ := x; exact ⟨z, y, vs, r, ob, es, ep, k _ _ (.inl rfl) e, c⟩
  | dT kvs =>
    obtain ⟨z, y, xs, r, ob, es, ep, e, c⟩ := x
    exact ⟨z, y, xs, Paired.mapP r fun p q z => ⟨z.1, ht _ _ z.2.1, z.2.2⟩, ob, es, ep, k _ _ (.inl rfl) e, c⟩
  | set S n => obtain ⟨ob, es, ep, t, e, c⟩ := x; exact ⟨ob, es, ep, t, k _ _ (.inl rfl) e, c⟩
  | ins C dx fs =>
    obtain ⟨d, z, ne, e, mA, ⟨od, es, ep, e2, c⟩, r⟩ := x
    exact ⟨ho _ d, z, ne, k _ _ (.inl rfl) e, mA, ⟨od, es, ep, k _ _ (.inr d) e2, c⟩, r⟩
  | own y => obtain ⟨ob, e⟩ := x; exact ⟨ob, k _ _ (.inl rfl) e⟩
  | xd fs => obtain ⟨mA, ⟨od, es, ep, e, c⟩, r⟩ := x; exact ⟨mA, ⟨od, es, ep, k _ _ (.inl rfl) e, c⟩, r⟩
  | rng lo hi => obtain ⟨t, u, v, e⟩ := x; exact ⟨t, u, v, k _ _ (.inl rfl) e⟩
  | frz ob u ih => obtain ⟨e, q⟩ := x; exact ⟨k _ _ (.inl rfl) e, ih q⟩
  | tbl ps =>
    have e : h.get? a = some { cls := .none, data := .fields ps } := x
    show h'.get? a = some { cls := .none, data := .fields ps }
    exact k a _ (.inl rfl) e
  | met f y =>
    have e : h.get? a = some (PySem.W.methodObj (.ref f) (.ref y)) := x
    show h'.get? a = some (PySem.W.methodObj (.ref f) (.ref y))
    exact k a _ (.inl rfl) e
  | ext φ => obtain ⟨p, ⟨o, e⟩, st⟩ := x; exact ⟨st _ _ p fun o q => k _ _ (.inl rfl) q, ⟨o, k _ _ (.inl rfl) e⟩, st⟩
theorem HOk.lt (x : HOk P w H h) (e : H a = some o) : a < h.objs.size := (x a o e).lt
theorem HOk.fresh (x : HOk P w H h) (e : h.objs.size ≤ a) : H a = none := by
  cases q : H a with
  | none => rfl
  | some u => exact absurd (Nat.lt_of_lt_of_le (x.lt q) e) (Nat.lt_irrefl _)
/-- every object of the heap is kept -/
theorem HOk.kept (x : HOk P w H h) (k : ∀ b u, h.get? b = some u → h'.get? b = some u) : HOk P w H h' := fun a o e =>
  (x a o e).stay (fun b u _ q => k b u q) (fun _ q => q) fun _ _ q => q
/-- a new object is laid and tracked -/
theorem HOk.laid (x : HOk P w H h) (k : ∀ b u, h.get? b = some u → h'.get? b = some u) (hp : h.objs.size ≤ a) (new : ObjOk P w (upd H a o) h' a o) : HOk P w (upd H a o) h' := fun b u e => by
  have hn := x.fresh hp
  by_cases hb : b = a
  · subst hb; rw [upd_same] at e; cases e; exact new
  · rw [upd_ne hb] at e
    exact (x b u e).stay (fun c v _ q => k c v q) (fun c q => by rw [upd_ne (ne_of_none q hn)]; exact q) fun c xs q => by rw [upd_ne (ne_of_none q hn)]; exact q
end

/-- what may be read as u: it is u, or a known u -/
def Rd (H : Hp) (a : Addr) (u : HO) : Prop := H a = some u ∨ ∃ o, H a = some (.frz o u)
theorem Rd.ok {P : Program} {w : World} {H : Hp} {h : Heap} {a : Addr} {u : HO} (r : Rd H a u) (x : HOk P w H h) : ObjOk P w H h a u := by
  rcases r with r | ⟨o, r⟩
  · exact x a u r
  · obtain ⟨_, q⟩ := x a _ r
    exact q
/-- what may be written -/
def Mut : Option HO → Prop
  | some (.lst _) => True
  | some (.dK _) => True
  | some (.dT _) => True
  | some (.set _ _) => True
  | some (.ins _ _ _) => True
  | some (.ext _) => True
  | _ => False
section
variable {P : Program} {w : World} {H : Hp} {h h' : Heap} {x e : Addr} {o' : HO}
/-- the object at e is changed: x itself, or the dict of the instance x -/
theorem HOk.write (ok : HOk P w H h) (mu : Mut (H x)) (he : e = x ∨ H e = some (.own x)) (k : ∀ b u, b ≠ e → h.get? b = some u → h'.get? b = some u) (heo : ∃ u, h'.get? e = some u)
    (new : ObjOk P w (upd H x o') h' x o') : HOk P w (upd H x o') h' := fun b u q => by
  have nown : ∀ c y, H c = some (.own y) → c ≠ x := fun c y r z => by subst z; rw [r] at mu; exact mu
  have ntup : ∀ c xs, H c = some (.tup xs) → c ≠ x := fun c xs r z => by subst z; rw [r] at mu; exact mu
  by_cases hb : b = x
  · subst hb; rw [upd_same] at q; cases q; exact new
  · rw [upd_ne hb] at q
    by_cases hbe : b = e
    · have q' : H b = some (.own x) := by
        rcases he with z | z
        · exact absurd (hbe.trans z) hb
        · rw [hbe]; exact z
      rw [q] at q'; cases q'
      obtain ⟨v, hv⟩ := heo
      exact ⟨v, by rw [hbe]; exact hv⟩
    · refine (ok b u q).stay (fun c v hc r => k c v ?_ r) (fun c r => by rw [upd_ne (nown c b r)]; exact r) fun c xs r => by rw [upd_ne (ntup c xs r)]; exact r
      rcases hc with rfl | hc
      · exact hbe
      · rintro rfl
        rcases he with z | z
        · exact nown c b hc z
        · rw [hc] at z; cases z; exact hb rfl
end

/-! ### kept unless tracked; of the frames at fs (the callers') the slots may change (an exception that passes writes there); of the records at ex (iterators) nothing is said -/
structure Un (fs ex : List Addr) (H H' : Hp) (h h' : Heap) : Prop where
  keep : ∀ b o, h.get? b = some o → H b = none → b ∉ fs → b ∉ ex → h'.get? b = some o
  slot : ∀ b o, h.get? b = some o → H b = none → b ∈ fs → b ∉ ex → ∃ sl, h'.get? b = some { o with slots := sl }
  free : ∀ b o, h.get? b = some o → H b = none → b ∉ ex → H' b = none
  there : ∀ b o, h.get? b = some o → b ∉ ex → ∃ o', h'.get? b = some o'
  tups : ∀ b xs, H b = some (.tup xs) → H' b = some (.tup xs)
  frzs : ∀ b o u, H b = some (.frz o u) → H' b = some (.frz o u)
  tbls : ∀ b ps, H b = some (.tbl ps) → ∃ more, H' b = some (.tbl (ps ++ more))
section
variable {fs fs' ex ex' : List Addr} {H H1 H2 : Hp} {h h1 h2 h' : Heap} {a x e : Addr} {o : HO}
theorem Un.any (u : Un fs ex H H1 h h1) {b : Addr} {ob : Obj} (q : h.get? b = some ob) (n : H b = none) (hx : b ∉ ex) : ∃ sl, h1.get? b = some { ob with slots := sl } := by
  by_cases hb : b ∈ fs
  · exact u.slot b ob q n hb hx
  · exact ⟨ob.slots, u.keep b ob q n hb hx⟩
theorem Un.kept (k : ∀ b u, h.get? b = some u → h'.get? b = some u) : Un fs ex H H h h' :=
  ⟨fun b ob q _ _ _ => k b ob q, fun b ob q _ _ _ => ⟨ob.slots, k b ob q⟩, fun _ _ _ n _ => n, fun b ob q _ => ⟨ob, k b ob q⟩, fun _ _ q => q, fun _ _ _ q => q, fun _ ps q => ⟨#[], by rw [q]; simp⟩⟩
theorem Un.refl : Un fs ex H H h h := Un.kept fun _ _ q => q
theorem Un.laid (k : ∀ b u, h.get? b = some u → h'.get? b = some u) (hp : h.objs.size ≤ a) (hn : H a = none) : Un fs ex H (upd H a o) h h' where
  keep := fun b u q _ _ _ => k b u q
  slot := fun b u q _ _ _ => ⟨u.slots, k b u q⟩
  free := fun b u q n _ => by rw [upd_ne (Nat.ne_of_lt (Nat.lt_of_lt_of_le (Heap.lt_size q) hp))]; exact n
  there := fun b u q _ => ⟨u, k b u q⟩
  tups := fun b xs q => by rw [upd_ne (ne_of_none q hn)]; exact q
  frzs := fun b u xs q => by rw [upd_ne (ne_of_none q hn)]; exact q
  tbls := fun b ps q => ⟨#[], by rw [upd_ne (ne_of_none q hn), q]; simp⟩
theorem Un.write (mu : Mut (H x)) (he : e = x ∨ H e = some (.own x)) (k : ∀ b u, b ≠ e → h.get? b = some u → h'.get? b = some u) (heo : ∃ u, h'.get? e = some u) : Un fs ex H (upd H x o) h h' := by
  have hx : ∀ b, H b = none → b ≠ x := fun b n z => by subst z; rw [n] at mu; exact mu
  have hb : ∀ b, H b = none → b ≠ e := fun b n z => by
    subst z
    rcases he with r | r
    · exact hx b n r
    · rw [n] at r; cases r
  have hm : ∀ b u, H b = some u → ¬ Mut (some u) → b ≠ x := fun b u q nm z => by subst z; rw [q] at mu; exact nm mu
  refine ⟨fun b u q n _ _ => k b u (hb b n) q, fun b u q n _ _ => ⟨u.slots, k b u (hb b n) q⟩, fun b u q n _ => by rw [upd_ne (hx b n)]; exact n, fun b u q _ => ?_,
    fun b xs q => by rw [upd_ne (hm b _ q fun z => z)]; exact q, fun b u xs q => by rw [upd_ne (hm b _ q fun z => z)]; exact q, fun b ps q => ⟨#[], by rw [upd_ne (hm b _ q fun z => z), q]; simp⟩⟩
  by_cases hbe : b = e
  · subst hbe; exact heo
  · exact ⟨u, k b u hbe q⟩
end

/-! ### the heap without what is tracked -/
def trk (h : Heap) (H : Hp) : List Addr := (List.range h.objs.size).filter fun a => (H a).isSome
def hidT (h : Heap) (H : Hp) : Heap := PySem.W.hideAll h (trk h H)
theorem hidT_size (h : Heap) (H : Hp) : (hidT h H).objs.size = h.objs.size := PySem.W.hideAll_size _ _
theorem hidT_get {h : Heap} {H : Hp} {b : Addr} {o : Obj} (e : h.get? b = some o) (n : H b = none) : (hidT h H).get? b = some o :=
  PySem.W.hideAll_get _ e fun hm => by
    have q : (H b).isSome = true := (List.mem_filter.mp hm).2
    rw [n] at q; simp at q
theorem of_hidT {h : Heap} {H : Hp} {b : Addr} {o : Obj} (e : (hidT h H).get? b = some o) : h.get? b = some o ∧ H b = none := by
  have e' : h.get? b = some o := PySem.W.of_hideAll (trk h H) e
  refine ⟨e', ?_⟩
  cases q : H b with
  | none => rfl
  | some x =>
    have hm : b ∈ trk h H := List.mem_filter.mpr ⟨List.mem_range.mpr (Heap.lt_size e'), by simp [q]⟩
    have z : (hidT h H).get? b = none := PySem.W.hideAll_none (trk h H) hm
    rw [z] at e; cases e

/-! ### OpenK's ledger, filled with every new object but one -/
end L2

namespace L2
open PySem PySem.Spec PyProof.Rows

/-- the module's facts, over the base: the heap at the law's entry without what is tracked there -/
structure Mod (K : PySem.W.Frag) (mg : Str → Option Value) (base : Heap) : Prop where
  kin : K.In base
  glob : base.Ns mainGlobals mg
  blt : ∃ mb, base.Ns builtinsNs mb ∧ ∀ x : Str, x ≠ "__name__" → mb x = bootBuiltins x
  nolimit : base.NoLimit

/-- the context: a def's body (or a comprehension's block) running. base: fixed through the whole law; s₀, H₀: the entry; outer: the frames whose slots others may change (a def's callers); stack: all frames that run;
   ex: iterators that were made ahead of the entry and are walked here (a comprehension's); fn: the names whose cells were made at the entry (a def: all; a comprehension's block: its own); calm: not within an except suite; pn: pins that every state bears; xe: what is wanted of an exception that leaves the code -/
structure Cx where
  prog : Program
  w : World
  K : PySem.W.Frag
  mg : Str → Option Value
  base : Heap
  A : Around
  N : List Str
  s₀ : Shared
  H₀ : Hp
  env : Env
  outer : List Env
  stack : List Env
  ex : List Addr
  fn : Str → Bool
  calm : Bool
  pn : List (Addr × Obj)
  xe : Value → Shared → Prop
/-- the callers' frames -/
def frs (l : List Env) : List Addr := l.filterMap (·.frame)
abbrev Cx.fs (X : Cx) : List Addr := frs X.outer

def Vis (sc : Scope) (x : Str) : Prop := sc.names.lookup x = some .local ∨ sc.names.lookup x = some .cell ∨ sc.names.lookup x = some .free
def Loc (sc : Scope) (x : Str) : Prop := sc.names.lookup x = some .local ∨ sc.names.lookup x = some .cell
def Look (env : Env) (h : Heap) (m : Str → Option Value) (x : Str) (u : Value) : Prop :=
  (env.kindOf x = some .local ∧ m x = some u) ∨ ((env.kindOf x = some .cell ∨ env.kindOf x = some .free) ∧ ∃ c, env.cells.lookup x = some c ∧ h.IsCell c (some u))

structure Cx.Ok (X : Cx) : Prop where
  mod : Mod X.K X.mg X.base
  kind : X.env.scope.kind = .function
  glob : X.env.globals = mainGlobals
  blt : X.env.builtins = builtinsNs
  above : X.s₀.heap.objs.size ≤ X.env.locals
  inj : ∀ x y c, X.env.cells.lookup x = some c → X.env.cells.lookup y = some c → x = y
  has : ∀ x, (X.env.kindOf x = some .cell ∨ X.env.kindOf x = some .free) → ∃ c, X.env.cells.lookup x = some c
  cab : ∀ x c, X.fn x = true → X.env.cells.lookup x = some c → X.s₀.heap.objs.size ≤ c
  hd : X.calm = true → X.A.handled = none
  frames : X.A.frames = some X.stack
  stk : X.stack = X.outer ∨ (X.stack = X.env :: X.outer ∧ X.env.frame = some X.env.locals)
  exf : ∀ b ∈ X.ex, b ≠ X.env.locals ∧ ∀ x c, X.env.cells.lookup x = some c → c ≠ b
  bs : ∀ b o, X.base.get? b = some o → X.s₀.heap.get? b = some o ∧ X.H₀ b = none
  bsz : X.base.objs.size ≤ X.s₀.heap.objs.size
  noex : ∀ b o, X.base.get? b = some o → b ∉ X.ex
  exfs : ∀ b ∈ X.ex, b ∉ X.fs
  funs : X.s₀.heap.FunFrames X.base X.outer
  frf : ∀ b ∈ X.fs, X.H₀ b = none

structure Inv (X : Cx) (pins : List (Addr × Obj)) (σ : List (Option V)) (H : Hp) (s : Shared) : Prop where
  ok : X.Ok
  os : s.os = X.s₀.os
  bare : AllBare s.gens
  base : Un X.fs X.ex X.H₀ H X.s₀.heap s.heap
  loc : ∃ m, s.heap.Ns X.env.locals m ∧ ∀ (i : Nat) (x : Str) (v : V), X.N[i]? = some x → σ[i]? = some (some v) → Vis X.env.scope x → ∃ u, RelV v u ∧ Look X.env s.heap m x u
  cell : ∀ x c, X.env.cells.lookup x = some c → ∃ v, s.heap.IsCell c v
  free : H X.env.locals = none
  freeC : ∀ x c, X.env.cells.lookup x = some c → H c = none
  pin : ∀ p ∈ X.pn ++ pins, s.heap.get? p.1 = some p.2 ∧ H p.1 = none ∧ p.1 ≠ X.env.locals ∧ p.1 ∉ X.fs ∧ ∀ v, p.2.data ≠ .cell v
  hok : HOk X.prog X.w H s.heap
  len : σ.length = X.N.length

section
variable {X : Cx} {pins : List (Addr × Obj)} {σ : List (Option V)} {H H' : Hp} {s : Shared} {h' : Heap}

theorem Cx.Ok.nofr (ok : X.Ok) {b : Addr} {o : Obj} (e : X.base.get? b = some o) : b ∉ X.fs := fun hb => by
  have := (ok.funs.mem hb).1
  rw [e] at this; cases this
theorem Inv.bs (I : Inv X pins σ H s) : ∀ b o, X.base.get? b = some o → s.heap.get? b = some o ∧ H b = none := fun b o e =>
  ⟨I.base.keep b o (I.ok.bs b o e).1 (I.ok.bs b o e).2 (I.ok.nofr e) (I.ok.noex b o e), I.base.free b o (I.ok.bs b o e).1 (I.ok.bs b o e).2 (I.ok.noex b o e)⟩
theorem Inv.bk (I : Inv X pins σ H s) : ∀ b o, X.base.get? b = some o → s.heap.get? b = some o := fun b o e => (I.bs b o e).1
theorem Inv.mod (I : Inv X pins σ H s) : Mod X.K X.mg X.base := I.ok.mod
theorem Inv.kIn (I : Inv X pins σ H s) : X.K.In s.heap := I.ok.mod.kin.keeps I.bk
theorem Inv.lt (I : Inv X pins σ H s) : X.env.locals < s.heap.objs.size := let ⟨_, hn, _⟩ := I.loc; hn.lt
theorem Inv.sz (I : Inv X pins σ H s) : X.s₀.heap.objs.size ≤ s.heap.objs.size := Nat.le_trans I.ok.above (Nat.le_of_lt I.lt)
theorem Inv.nofs (I : Inv X pins σ H s) {a : Addr} (h : s.heap.objs.size ≤ a) : a ∉ X.fs := fun hb => by
  obtain ⟨_, o, ho, _⟩ := I.ok.funs.mem hb
  exact absurd (Nat.lt_of_lt_of_le (Heap.lt_size ho) (Nat.le_trans I.sz h)) (Nat.lt_irrefl _)
theorem Inv.cne (I : Inv X pins σ H s) : ∀ x c, X.env.cells.lookup x = some c → c ≠ X.env.locals := fun x c e z => by
  obtain ⟨v, o, ho, hd⟩ := I.cell x c e
  obtain ⟨m, ⟨o', es, ep, ho', hd', _⟩, _⟩ := I.loc
  rw [z, ho'] at ho; cases ho; rw [hd'] at hd; cases hd
theorem Inv.funs (I : Inv X pins σ H s) : s.heap.FunFrames X.base X.outer := by
  have all : ∀ (l : List Env), (∀ b ∈ frs l, b ∈ X.fs) → X.s₀.heap.FunFrames X.base l → s.heap.FunFrames X.base l := by
    intro l
    induction l with
    | nil => intro _ _; trivial
    | cons env r ih =>
      intro hs hl
      obtain ⟨hk, ⟨L, o, hf, hn, ho, hd⟩, hr⟩ := hl
      have hL : L ∈ X.fs := hs L (by unfold frs; rw [List.filterMap_cons, hf]; exact List.mem_cons_self)
      obtain ⟨sl, e⟩ := I.base.slot L o ho (I.ok.frf L hL) hL fun z => I.ok.exfs L z hL
      exact ⟨hk, ⟨L, _, hf, hn, e, hd⟩, ih (fun b hb => hs b (by unfold frs; rw [List.filterMap_cons, hf]; exact List.mem_cons_of_mem _ hb)) hr⟩
  exact all X.outer (fun _ hb => hb) I.ok.funs

/-- the frames that run, for a call -/
theorem Inv.stack (I : Inv X pins σ H s) : s.heap.FunFrames X.base X.stack := by
  rcases I.ok.stk with e | ⟨e, hf⟩
  · rw [e]; exact I.funs
  · rw [e]
    obtain ⟨m, hn, _⟩ := I.loc
    refine .cons (by rw [I.ok.kind]; decide) hf hn ?_ I.funs
    exact Heap.get?_none_of_le (Nat.le_trans I.ok.bsz I.ok.above)
theorem Inv.stkSub (I : Inv X pins σ H s) : ∀ b ∈ frs X.stack, b ∈ X.env.locals :: X.fs := fun b hb => by
  rcases I.ok.stk with e | ⟨e, hf⟩
  · rw [e] at hb; exact List.mem_cons_of_mem _ hb
  · rw [e] at hb
    unfold frs at hb
    rw [List.filterMap_cons, hf] at hb
    exact hb
theorem Inv.stkFree (I : Inv X pins σ H s) : ∀ b ∈ frs X.stack, H b = none := fun b hb => by
  rcases List.mem_cons.mp (I.stkSub b hb) with e | hb
  · rw [e]; exact I.free
  · obtain ⟨_, o, ho, _⟩ := I.ok.funs.mem hb
    exact I.base.free b o ho (I.ok.frf b hb) fun z => I.ok.exfs b z hb

/-- THE STEP: the untracked objects but the frame and the records at ch are kept (the callers' frames up to slots), the frame's map is kept, the new abstract heap is held -/
theorem Inv.step {g' : Array GenState} {t' : Nat} {d' : Drawn} {ch : List Addr} (I : Inv X pins σ H s)
    (hch : ∀ b ∈ ch, (b ∈ X.ex ∨ X.s₀.heap.objs.size ≤ b) ∧ b ≠ X.env.locals ∧ (∀ x c, X.env.cells.lookup x = some c → c ≠ b) ∧ ∀ p ∈ X.pn ++ pins, p.1 ≠ b)
    (keep : ∀ b o, b ≠ X.env.locals → b ∉ X.fs → b ∉ ch → s.heap.get? b = some o → H b = none → h'.get? b = some o)
    (slot : ∀ b o, b ≠ X.env.locals → b ∈ X.fs → b ∉ ch → s.heap.get? b = some o → H b = none → ∃ sl, h'.get? b = some { o with slots := sl }) (free : ∀ b o, b ∉ ch → s.heap.get? b = some o → H b = none → H' b = none)
    (there : ∀ b o, b ∉ ch → s.heap.get? b = some o → ∃ o', h'.get? b = some o')
    (tups : ∀ b xs, H b = some (.tup xs) → H' b = some (.tup xs)) (frzs : ∀ b o u, H b = some (.frz o u) → H' b = some (.frz o u)) (tbls : ∀ b ps, H b = some (.tbl ps) → ∃ more, H' b = some (.tbl (ps ++ more)))
    (ns : ∀ m, s.heap.Ns X.env.locals m → h'.Ns X.env.locals m) (hok : HOk X.prog X.w H' h') (hg : AllBare g') :
    Inv X pins σ H' { s with heap := h', gens := g', drawn := d', toks := t' } := by
  have neL : ∀ b o, X.s₀.heap.get? b = some o → b ≠ X.env.locals := fun b o e => Nat.ne_of_lt (Nat.lt_of_lt_of_le (Heap.lt_size e) I.ok.above)
  have neC : ∀ b o, X.s₀.heap.get? b = some o → b ∉ X.ex → b ∉ ch := fun b o e hx hb => by
    rcases (hch b hb).1 with z | z
    · exact hx z
    · exact absurd (Nat.lt_of_lt_of_le (Heap.lt_size e) z) (Nat.lt_irrefl _)
  have cellK : ∀ x c, X.env.cells.lookup x = some c → ∀ v, s.heap.IsCell c v → h'.IsCell c v := fun x c e v ⟨o, ho, hd⟩ => by
    have nch : c ∉ ch := fun z => (hch c z).2.2.1 x c e rfl
    by_cases hc : c ∈ X.fs
    · obtain ⟨sl, q⟩ := slot c o (I.cne x c e) hc nch ho (I.freeC x c e)
      exact ⟨_, q, hd⟩
    · exact ⟨o, keep c o (I.cne x c e) hc nch ho (I.freeC x c e), hd⟩
  refine ⟨I.ok, I.os, hg, ⟨fun b o e n hb hx => ?_, fun b o e n hb hx => ?_, fun b o e n hx => ?_, fun b o e hx => ?_, fun b xs e => tups b xs (I.base.tups b xs e), fun b o xs e => frzs b o xs (I.base.frzs b o xs e), fun b ps e => ?_⟩, ?_, fun x c e => ?_, ?_, fun x c e => ?_, fun p hp => ?_, hok, I.len⟩
  · exact keep b o (neL b o e) hb (neC b o e hx) (I.base.keep b o e n hb hx) (I.base.free b o e n hx)
  · obtain ⟨sl, e1⟩ := I.base.slot b o e n hb hx
    obtain ⟨sl', e2⟩ := slot b _ (neL b o e) hb (neC b o e hx) e1 (I.base.free b o e n hx)
    exact ⟨sl', e2⟩
  · obtain ⟨o', e1⟩ := I.base.there b o e hx
    exact free b o' (neC b o e hx) e1 (I.base.free b o e n hx)
  · obtain ⟨o', e1⟩ := I.base.there b o e hx
    exact there b o' (neC b o e hx) e1
  · obtain ⟨m1, e1⟩ := I.base.tbls b ps e
    obtain ⟨m2, e2⟩ := tbls b _ e1
    exact ⟨m1 ++ m2, by rw [e2, Array.append_assoc]⟩
  · obtain ⟨m, hn, hl⟩ := I.loc
    refine ⟨m, ns m hn, fun i x v e1 e2 e3 => ?_⟩
    obtain ⟨u, r, l⟩ := hl i x v e1 e2 e3
    refine ⟨u, r, ?_⟩
    rcases l with l | ⟨k, c, e, z⟩
    · exact .inl l
    · exact .inr ⟨k, c, e, cellK x c e _ z⟩
  · obtain ⟨v, z⟩ := I.cell x c e
    exact ⟨v, cellK x c e v z⟩
  · obtain ⟨m, ⟨o, _, _, ho, _⟩, _⟩ := I.loc
    exact free _ o (fun z => (hch _ z).2.1 rfl) ho I.free
  · obtain ⟨v, o, ho, hd⟩ := I.cell x c e
    exact free c o (fun z => (hch c z).2.2.1 x c e rfl) ho (I.freeC x c e)
  · obtain ⟨e, n, ne, nf, d⟩ := I.pin p hp
    have nch : p.1 ∉ ch := fun z => (hch p.1 z).2.2.2 p hp rfl
    exact ⟨keep p.1 p.2 ne nf nch e n, free p.1 p.2 nch e n, ne, nf, d⟩
/-- .. where the frame's own object is kept too -/
theorem Inv.un {t' : Nat} (I : Inv X pins σ H s) (u : Un X.fs [] H H' s.heap h') (hok : HOk X.prog X.w H' h') : Inv X pins σ H' { s with heap := h', toks := t' } := by
  obtain ⟨m, ⟨o, es, ep, ho, r⟩, _⟩ := id I.loc
  obtain ⟨sl, hL⟩ := u.any ho I.free (by simp)
  exact I.step (g' := s.gens) (d' := s.drawn) (ch := []) (fun _ z => nomatch z) (fun b o _ hb _ e n => u.keep b o e n hb (by simp)) (fun b o _ hb _ e n => u.slot b o e n hb (by simp)) (fun b o _ e n => u.free b o e n (by simp)) (fun b o _ e => u.there b o e (by simp)) u.tups u.frzs u.tbls (fun m' hm => by
    obtain ⟨o', es', ep', ho', r'⟩ := hm
    rw [ho] at ho'; cases ho'
    exact ⟨_, es', ep', hL, r'⟩) hok I.bare
/-- behind a call (or a comprehension's block): the slots of this frame may have changed too, the records at ch may have turned -/
theorem Inv.call {g' : Array GenState} {t' : Nat} {d' : Drawn} {ch : List Addr} (I : Inv X pins σ H s) (u : Un (frs X.stack) ch H H' s.heap h') (hok : HOk X.prog X.w H' h') (hg : AllBare g')
    (hch : ∀ b ∈ ch, (b ∈ X.ex ∨ X.s₀.heap.objs.size ≤ b) ∧ b ≠ X.env.locals ∧ (∀ x c, X.env.cells.lookup x = some c → c ≠ b) ∧ ∀ p ∈ X.pn ++ pins, p.1 ≠ b) :
    Inv X pins σ H' { s with heap := h', gens := g', drawn := d', toks := t' } := by
  obtain ⟨m, ⟨o, es, ep, ho, r⟩, _⟩ := id I.loc
  obtain ⟨sl, hL⟩ := u.any ho I.free fun z => (hch _ z).2.1 rfl
  exact I.step (ch := ch) hch (fun b o hL hb hc e n => u.keep b o e n (fun z => (List.mem_cons.mp (I.stkSub b z)).elim hL hb) hc) (fun b o _ _ hc e n => u.any e n hc) (fun b o hc e n => u.free b o e n hc) (fun b o hc e => u.there b o e hc) u.tups u.frzs u.tbls (fun m' hm => by
    obtain ⟨o', es', ep', ho', r'⟩ := hm
    rw [ho] at ho'; cases ho'
    exact ⟨_, es', ep', hL, r'⟩) hok hg
/-- an untracked record of ours (an iterator) has turned -/
theorem Inv.turned {t' : Nat} {it : Addr} (I : Inv X pins σ H s) (k : ∀ b o, b ≠ it → s.heap.get? b = some o → h'.get? b = some o) (hn : H it = none) (hL : it ≠ X.env.locals)
    (h1 : it ∈ X.ex ∨ X.s₀.heap.objs.size ≤ it) (h2 : ∀ x c, X.env.cells.lookup x = some c → c ≠ it) (h3 : ∀ p ∈ X.pn ++ pins, p.1 ≠ it) : Inv X pins σ H { s with heap := h', toks := t' } := by
  have nit : ∀ b u, H b = some u → b ≠ it := fun b u e z => by rw [z, hn] at e; cases e
  refine I.step (g' := s.gens) (d' := s.drawn) (ch := [it]) (fun b hb => ?_) (fun b o _ _ hc e _ => k b o (fun z => hc (by simp [z])) e) (fun b o _ _ hc e _ => ⟨o.slots, k b o (fun z => hc (by simp [z])) e⟩) (fun _ _ _ _ n => n)
    (fun b o hc e => ⟨o, k b o (fun z => hc (by simp [z])) e⟩) (fun _ _ e => e) (fun _ _ _ e => e) (fun b ps e => ⟨#[], by rw [e]; simp⟩) (fun m hm => ?_) (fun b u e => ?_) I.bare
  · have e : b = it := by simpa using hb
    subst e
    exact ⟨h1, hL, h2, h3⟩
  · obtain ⟨o, es, ep, ho, r⟩ := hm
    exact ⟨o, es, ep, k _ o (Ne.symm hL) ho, r⟩
  · refine (I.hok b u e).stay (fun c v hc q => k c v ?_ q) (fun _ q => q) fun _ _ q => q
    rcases hc with z | z
    · rw [z]; exact nit b u e
    · exact nit c _ z
theorem Inv.tok (I : Inv X pins σ H s) (t : Nat) : Inv X pins σ H { s with toks := t } := I.un (h' := s.heap) (t' := t) Un.refl I.hok
/-- all objects kept -/
theorem Inv.kept {t' : Nat} (I : Inv X pins σ H s) (k : ∀ b u, s.heap.get? b = some u → h'.get? b = some u) : Inv X pins σ H { s with heap := h', toks := t' } := I.un (Un.kept k) (I.hok.kept k)
/-- a new object laid and tracked -/
theorem Inv.laid {a : Addr} {o : HO} {t' : Nat} (I : Inv X pins σ H s) (k : ∀ b u, s.heap.get? b = some u → h'.get? b = some u) (hp : s.heap.objs.size ≤ a) (new : ObjOk X.prog X.w (upd H a o) h' a o) :
    Inv X pins σ (upd H a o) { s with heap := h', toks := t' } := I.un (Un.laid k hp (I.hok.fresh hp)) (I.hok.laid k hp new)
/-- an object written -/
theorem Inv.write {x e : Addr} {o : HO} {t' : Nat} (I : Inv X pins σ H s) (mu : Mut (H x)) (he : e = x ∨ H e = some (.own x)) (k : ∀ b u, b ≠ e → s.heap.get? b = some u → h'.get? b = some u) (heo : ∃ u, h'.get? e = some u)
    (new : ObjOk X.prog X.w (upd H x o) h' x o) : Inv X pins σ (upd H x o) { s with heap := h', toks := t' } := I.un (Un.write mu he k heo) (I.hok.write mu he k heo new)
/-- forgetting slots, pins -/
theorem Inv.weak {σ' : List (Option V)} (I : Inv X pins σ H s) (hl : σ'.length = σ.length) (w : ∀ (i : Nat) v, σ'[i]? = some (some v) → σ[i]? = some (some v)) : Inv X pins σ' H s :=
  ⟨I.ok, I.os, I.bare, I.base, let ⟨m, hn, hl'⟩ := I.loc; ⟨m, hn, fun i x v e1 e2 e3 => hl' i x v e1 (w i v e2) e3⟩, I.cell, I.free, I.freeC, I.pin, I.hok, hl.trans I.len⟩
theorem Inv.pins_of {pins' : List (Addr × Obj)} (I : Inv X pins σ H s) (h : ∀ p ∈ pins', s.heap.get? p.1 = some p.2 ∧ H p.1 = none ∧ p.1 ≠ X.env.locals ∧ p.1 ∉ X.fs ∧ ∀ v, p.2.data ≠ .cell v) : Inv X pins' σ H s :=
  ⟨I.ok, I.os, I.bare, I.base, I.loc, I.cell, I.free, I.freeC, fun p hp => (List.mem_append.mp hp).elim (fun z => I.pin p (List.mem_append_left _ z)) (h p), I.hok, I.len⟩

theorem nodup_ix {N : List Str} (hN : N.Nodup) {i j : Nat} {x : Str} (a : N[i]? = some x) (b : N[j]? = some x) : i = j := by
  obtain ⟨h1, e1⟩ := List.getElem?_eq_some_iff.mp a
  obtain ⟨h2, e2⟩ := List.getElem?_eq_some_iff.mp b
  exact (List.getElem_inj hN).mp (e1.trans e2.symm)

/-- a name is stored; what changed -/
theorem store_ok2 {M : Model} {A : Around} {E : Value → Shared → Prop} {i : Nat} {x : Str} {v : V} {u : Value} {Q : Unit → Shared → Prop} (I : Inv X pins σ H s) (hN : X.N.Nodup) (hi : X.N[i]? = some x) (hx : Loc X.env.scope x) (r : RelV v u)
    (h : ∀ s', Inv X pins (σ.set i (some v)) H s' → (∃ a, Heap.SameBut a s.heap s'.heap ∧ (a = X.env.locals ∨ X.env.cells.lookup x = some a)) → Q () s') (hf : X.fn x = true ∨ X.env.scope.names.lookup x = some .local := by first | exact .inl rfl | exact .inr rfl | assumption) : wpAny M A (storeName X.env x u) Q E s := by
  obtain ⟨m, hn, hl⟩ := id I.loc
  have hcls : (X.env.scope.kind == .class || (X.env.scope.kind == .module && X.env.locals != X.env.globals)) = false := by rw [I.ok.kind]; rfl
  have hiσ : i < σ.length := by rw [I.len]; exact (List.getElem?_eq_some_iff.mp hi).1
  have cne := I.cne
  have tracked : ∀ {a : Addr} {h' : Heap}, (∃ o, s.heap.get? a = some o ∧ H a = none) → Heap.SameBut a s.heap h' → HOk X.prog X.w H h' := fun {a h'} ha hs b ob e => by
    obtain ⟨_, _, hfree⟩ := ha
    refine (I.hok b ob e).stay (fun c w' hc q => (hs.2 c ?_).trans q) (fun _ q => q) fun _ _ q => q
    rintro rfl
    rcases hc with rfl | hc
    · rw [hfree] at e; cases e
    · rw [hfree] at hc; cases hc
  rcases hx with hk | hk
  · refine wpAny_storeName_local hk hn (fun h' hn' hs => ?_) hcls
    obtain ⟨oL, _, _, hoL, _⟩ := id hn
    refine h _ ⟨I.ok, I.os, I.bare, ⟨fun b o e n hb hx => ?_, fun b o e n hb hx => ?_, I.base.free, fun b o e hx => ?_, I.base.tups, I.base.frzs, I.base.tbls⟩, ⟨_, hn', fun j y v' e1 e2 e3 => ?_⟩, fun y c e => ?_, I.free, I.freeC, fun p hp => ?_, tracked ⟨oL, hoL, I.free⟩ hs, by simpa using I.len⟩ ⟨_, hs, .inl rfl⟩
    · exact (hs.2 b (Nat.ne_of_lt (Nat.lt_of_lt_of_le (Heap.lt_size e) I.ok.above))).trans (I.base.keep b o e n hb hx)
    · obtain ⟨sl, e1⟩ := I.base.slot b o e n hb hx
      exact ⟨sl, (hs.2 b (Nat.ne_of_lt (Nat.lt_of_lt_of_le (Heap.lt_size e) I.ok.above))).trans e1⟩
    · obtain ⟨o', e1⟩ := I.base.there b o e hx
      exact ⟨o', (hs.2 b (Nat.ne_of_lt (Nat.lt_of_lt_of_le (Heap.lt_size e) I.ok.above))).trans e1⟩
    · by_cases hj : j = i
      · subst hj
        rw [hi] at e1; cases e1
        rw [List.getElem?_set_self hiσ] at e2
        cases e2
        exact ⟨u, r, .inl ⟨hk, by simp⟩⟩
      · rw [List.getElem?_set_ne (Ne.symm hj)] at e2
        obtain ⟨u', r', q⟩ := hl j y v' e1 e2 e3
        refine ⟨u', r', ?_⟩
        rcases q with ⟨k, e⟩ | ⟨k, c, e, z⟩
        · refine .inl ⟨k, ?_⟩
          have : y ≠ x := fun e => hj (nodup_ix hN e1 (e ▸ hi))
          simp [this, e]
        · exact .inr ⟨k, c, e, z.sameBut hs (cne y c e)⟩
    · obtain ⟨w', z⟩ := I.cell y c e
      exact ⟨w', z.sameBut hs (cne y c e)⟩
    · obtain ⟨e, n, ne, nf, d⟩ := I.pin p hp
      exact ⟨(hs.2 p.1 ne).trans e, n, ne, nf, d⟩
  · have hfn : X.fn x = true := by
      rcases hf with z | z
      · exact z
      · rw [z] at hk; cases hk
    obtain ⟨c, hc⟩ := I.ok.has x (.inl hk)
    obtain ⟨w', z⟩ := I.cell x c hc
    refine wpAny_storeName_cell I.ok.kind hk hc z (fun h' hc' hs => ?_)
    obtain ⟨oc, hoc, hocd⟩ := id z
    refine h { s with heap := h' } ⟨I.ok, I.os, I.bare, ⟨fun b o e n hb hx => ?_, fun b o e n hb hx => ?_, I.base.free, fun b o e hx => ?_, I.base.tups, I.base.frzs, I.base.tbls⟩, ⟨m, hn.sameBut hs (Ne.symm (cne x c hc)), fun j y v' e1 e2 e3 => ?_⟩, fun y c' e => ?_, I.free, I.freeC, fun p hp => ?_, tracked ⟨oc, hoc, I.freeC x c hc⟩ hs, by simpa using I.len⟩ ⟨c, hs, .inr hc⟩
    · exact (hs.2 b (Nat.ne_of_lt (Nat.lt_of_lt_of_le (Heap.lt_size e) (I.ok.cab x c hfn hc)))).trans (I.base.keep b o e n hb hx)
    · obtain ⟨sl, e1⟩ := I.base.slot b o e n hb hx
      exact ⟨sl, (hs.2 b (Nat.ne_of_lt (Nat.lt_of_lt_of_le (Heap.lt_size e) (I.ok.cab x c hfn hc)))).trans e1⟩
    · obtain ⟨o', e1⟩ := I.base.there b o e hx
      exact ⟨o', (hs.2 b (Nat.ne_of_lt (Nat.lt_of_lt_of_le (Heap.lt_size e) (I.ok.cab x c hfn hc)))).trans e1⟩
    · by_cases hj : j = i
      · subst hj
        rw [hi] at e1; cases e1
        rw [List.getElem?_set_self hiσ] at e2
        cases e2
        exact ⟨u, r, .inr ⟨.inl hk, c, hc, hc'⟩⟩
      · rw [List.getElem?_set_ne (Ne.symm hj)] at e2
        obtain ⟨u', r', q⟩ := hl j y v' e1 e2 e3
        refine ⟨u', r', ?_⟩
        rcases q with q | ⟨k, c', e, z'⟩
        · exact .inl q
        · refine .inr ⟨k, c', e, z'.sameBut hs ?_⟩
          rintro rfl
          exact hj (nodup_ix hN e1 (I.ok.inj _ _ _ e hc ▸ hi))
    · by_cases hcc : c' = c
      · subst hcc; exact ⟨_, hc'⟩
      · obtain ⟨w2, z2⟩ := I.cell y c' e
        exact ⟨w2, z2.sameBut hs hcc⟩
    · obtain ⟨e, n, ne, nf, d⟩ := I.pin p hp
      refine ⟨(hs.2 p.1 ?_).trans e, n, ne, nf, d⟩
      intro q
      rw [q, hoc] at e
      have q' : oc = p.2 := Option.some.inj e
      exact d w' (by rw [← q']; exact hocd)
theorem store_ok {M : Model} {A : Around} {E : Value → Shared → Prop} {i : Nat} {x : Str} {v : V} {u : Value} {Q : Unit → Shared → Prop} (I : Inv X pins σ H s) (hN : X.N.Nodup) (hi : X.N[i]? = some x) (hx : Loc X.env.scope x) (r : RelV v u)
    (h : ∀ s', Inv X pins (σ.set i (some v)) H s' → Q () s') (hf : X.fn x = true ∨ X.env.scope.names.lookup x = some .local := by first | exact .inl rfl | exact .inr rfl | assumption) : wpAny M A (storeName X.env x u) Q E s :=
  store_ok2 I hN hi hx r (fun s' I' _ => h s' I') hf
/-- behind a call or a block, the state as it is -/
theorem Inv.call' {s' : Shared} {ch : List Addr} (I : Inv X pins σ H s) (ho : s'.os = s.os) (u : Un (frs X.stack) ch H H' s.heap s'.heap) (hok : HOk X.prog X.w H' s'.heap) (hg : AllBare s'.gens)
    (hch : ∀ b ∈ ch, (b ∈ X.ex ∨ X.s₀.heap.objs.size ≤ b) ∧ b ≠ X.env.locals ∧ (∀ x c, X.env.cells.lookup x = some c → c ≠ b) ∧ ∀ p ∈ X.pn ++ pins, p.1 ≠ b) : Inv X pins σ H' s' := by
  obtain ⟨h', g', d', t', o'⟩ := s'
  have e : o' = s.os := ho
  subst e
  exact I.call (g' := g') (t' := t') (d' := d') u hok hg hch
end

/-! ### the judgements -/
/-- an exception: its class, its own dict's address (where it has one), the abstract heap behind it -/
abbrev XK := Value → Option Addr → Hp → Prop
abbrev St := List (Option V)
abbrev VK := V → Hp → Prop
/-- an expression's reading; a test's; an argument list's -/
abbrev TE := St → Hp → VK → Prop
abbrev TT := St → Hp → (Bool → Hp → Prop) → Prop
abbrev TA := St → Hp → (List V → Hp → Prop) → Prop
/-- what is wanted behind a statement -/
structure Ends where
  nx : St → Hp → Prop
  rt : VK
  bk : St → Hp → Prop := fun _ _ => False
  ct : St → Hp → Prop := fun _ _ => False
abbrev TS := Ends → St → Hp → Prop

def EP (X : Cx) (pins : List (Addr × Obj)) (σ : St) (Q : VK) (u : Value) (s' : Shared) : Prop := ∃ v H', Inv X pins σ H' s' ∧ RelV v u ∧ Q v H'
def TP (X : Cx) (pins : List (Addr × Obj)) (σ : St) (Q : Bool → Hp → Prop) (b : Bool) (s' : Shared) : Prop := ∃ H', Inv X pins σ H' s' ∧ Q b H'
def AP (X : Cx) (pins : List (Addr × Obj)) (σ : St) (Q : List V → Hp → Prop) (us : List Value) (s' : Shared) : Prop := ∃ vs H', Inv X pins σ H' s' ∧ Vals vs us ∧ Q vs H'
def SP (X : Cx) (pins : List (Addr × Obj)) (D : Ends) (f : Flow) (s' : Shared) : Prop :=
  match f with
  | .next => ∃ σ' H', Inv X pins σ' H' s' ∧ D.nx σ' H'
  | .brk => ∃ σ' H', Inv X pins σ' H' s' ∧ D.bk σ' H'
  | .cont => ∃ σ' H', Inv X pins σ' H' s' ∧ D.ct σ' H'
  | .ret u => ∃ v σ' H', Inv X pins σ' H' s' ∧ RelV v u ∧ D.rt v H'

def PE (X : Cx) (e : Expr) (t : TE) : Prop :=
  ∀ (pins : List (Addr × Obj)) (s : Shared) (σ : St) (H : Hp) (Q : VK), Inv X pins σ H s → t σ H Q → wpAny (model X.prog X.w) X.A (eval e X.env) (EP X pins σ Q) X.xe s
def PT (X : Cx) (e : Expr) (t : TT) : Prop :=
  ∀ (pins : List (Addr × Obj)) (s : Shared) (σ : St) (H : Hp) (Q : Bool → Hp → Prop), Inv X pins σ H s → t σ H Q → wpAny (model X.prog X.w) X.A (isTrue e X.env (eval e X.env)) (TP X pins σ Q) X.xe s
/-- a test whatever its 'whole' is (and, or) -/
def PW (X : Cx) (e : Expr) (t : TT) : Prop :=
  ∀ (whole : Sem Value) (pins : List (Addr × Obj)) (s : Shared) (σ : St) (H : Hp) (Q : Bool → Hp → Prop), Inv X pins σ H s → t σ H Q → wpAny (model X.prog X.w) X.A (isTrue e X.env whole) (TP X pins σ Q) X.xe s
theorem PW.pt {X : Cx} {e : Expr} {t : TT} (h : PW X e t) : PT X e t := h _
/-- an argument list (no star), from the left -/
def PA (X : Cx) (es : List Expr) (t : TA) : Prop :=
  ∀ (pos : Pos) (pins : List (Addr × Obj)) (s : Shared) (σ : St) (H : Hp) (Q : List V → Hp → Prop), Inv X pins σ H s → t σ H Q → wpAny (model X.prog X.w) X.A (spliced (backTo pos (starEach es X.env))) (AP X pins σ Q) X.xe s
def PS (X : Cx) (st : Stmt) (t : TS) : Prop :=
  ∀ (pins : List (Addr × Obj)) (s : Shared) (σ : St) (H : Hp) (D : Ends), Inv X pins σ H s → t D σ H → wpAny (model X.prog X.w) X.A (exec st X.env) (SP X pins D) X.xe s
def PSs (X : Cx) (st : List Stmt) (t : TS) : Prop :=
  ∀ (pins : List (Addr × Obj)) (s : Shared) (σ : St) (H : Hp) (D : Ends), Inv X pins σ H s → t D σ H → wpAny (model X.prog X.w) X.A (execs st X.env) (SP X pins D) X.xe s
/-- weaken the end -/
theorem thn {α : Type} {t : Sem α} {Q Q' : α → Shared → Prop} {M : Model} {A : Around} {E : Value → Shared → Prop} {s : Shared} (h : wpAny M A t Q E s) (hQ : ∀ a s, Q a s → Q' a s) : wpAny M A t Q' E s := wpAny_mono h hQ fun _ _ x => x
end L2

namespace L2
open PySem PySem.Spec PyProof.Rows
section
variable {X : Cx}


/-! ### names and constants -/
def tVar (i : Nat) : TE := fun σ H Q => ∃ v, σ[i]? = some (some v) ∧ Q v H
def tC (v : V) : TE := fun _ H Q => Q v H
theorem pe_var {i : Nat} {x : Str} {pos : Pos} (hN : X.N[i]? = some x) (hv : Vis X.env.scope x) (hd : (x == ("__debug__" : Str)) = false := by decide) (hcd : (x == ("__classdict__" : Str)) = false := by decide) : PE X (.Name x pos) (tVar i) := by
  intro pins s σ H Q I h
  obtain ⟨v, e, h⟩ := h
  obtain ⟨m, hn, hl⟩ := I.loc
  obtain ⟨u, r, l⟩ := hl i x v hN e hv
  have fin : EP X pins σ Q u s := ⟨v, H, I, r, h⟩
  rcases l with ⟨hk, hm⟩ | ⟨hk, c, hc, hcell⟩
  · exact wpAny_Name (wpAny_loadName_local I.ok.kind hk hn hm fin) hd
  · rcases hk with hk | hk
    · exact wpAny_Name (wpAny_loadName_cell I.ok.kind hk hc hcell fin) hd
    · exact wpAny_Name (wpAny_loadName_free I.ok.kind hk hc hcell fin hcd) hd
theorem pe_int {i j pos} : PE X (.Constant (.int i) j pos) (tC (.int i)) := fun _ _ _ H _ I h => wpAny_Constant_int ⟨.int i, H, I.tok _, ⟨_, rfl⟩, h⟩
theorem pe_bl {b j pos} : PE X (.Constant (.bool b) j pos) (tC (.bl b)) := fun _ _ _ H _ I h => Constant_bool ⟨.bl b, H, I, rfl, h⟩
theorem pe_non {j pos} : PE X (.Constant .none j pos) (tC .non) := fun _ _ _ H _ I h => Constant_none ⟨.non, H, I, rfl, h⟩
theorem pe_str {x j pos} : PE X (.Constant (.str x) j pos) (tC (.str x)) := fun _ _ _ H _ I h => Calls.Constant_str ⟨.str x, H, I.tok _, ⟨_, rfl⟩, h⟩

/-- a global name of the def -/
def Gl (X : Cx) (x : Str) : Prop := X.env.kindOf x = some .globalImplicit
theorem ld_glob {E : Value → Shared → Prop} {pins : List (Addr × Obj)} {s : Shared} {σ : St} {H : Hp} {x : Str} {u : Value} {pos : Pos} {Q : Value → Shared → Prop} (I : Inv X pins σ H s) (hg : Gl X x) (hm : X.mg x = some u) (h : Q u s)
    (hd : (x == ("__debug__" : Str)) = false := by decide) : wpAny (model X.prog X.w) X.A (eval (.Name x pos) X.env) Q E s :=
  Calls.Name_function_global I.ok.kind hg (Calls.loadGlobal_global (by rw [I.ok.glob]; exact I.mod.glob.keeps I.bk) hm h) hd
theorem ld_blt {E : Value → Shared → Prop} {pins : List (Addr × Obj)} {s : Shared} {σ : St} {H : Hp} {x : Str} {u : Value} {pos : Pos} {Q : Value → Shared → Prop} (I : Inv X pins σ H s) (hg : Gl X x) (hm : X.mg x = none) (hv : bootBuiltins x = some u) (h : Q u s)
    (hn : x ≠ "__name__" := by decide) (hd : (x == ("__debug__" : Str)) = false := by decide) : wpAny (model X.prog X.w) X.A (eval (.Name x pos) X.env) Q E s := by
  obtain ⟨mb, h1, h2⟩ := I.mod.blt
  exact Calls.Name_function_global I.ok.kind hg (Calls.loadGlobal_builtin (by rw [I.ok.glob]; exact I.mod.glob.keeps I.bk) hm (by rw [I.ok.blt]; exact h1.keeps I.bk) ((h2 x hn).trans hv) h) hd
/-- a module's constant, a class, a function, as a value -/
theorem pe_glob {x : Str} {v : V} {u : Value} {pos : Pos} (hg : Gl X x) (hm : X.mg x = some u) (r : RelV v u) (hd : (x == ("__debug__" : Str)) = false := by decide) : PE X (.Name x pos) (tC v) :=
  fun _ _ _ H _ I h => ld_glob I hg hm ⟨v, H, I, r, h⟩ hd
theorem pe_bltn {x : Str} {v : V} {u : Value} {pos : Pos} (hg : Gl X x) (hm : X.mg x = none) (hv : bootBuiltins x = some u) (r : RelV v u) (hn : x ≠ "__name__" := by decide) (hd : (x == ("__debug__" : Str)) = false := by decide) : PE X (.Name x pos) (tC v) :=
  fun _ _ _ H _ I h => ld_blt I hg hm hv ⟨v, H, I, r, h⟩ hn hd

/-! ### arithmetic -/
variable {a b : Expr} {ta tb : TE} {pos : Pos}

/-! ### comparisons -/
def PC (X : Cx) (op : CmpOp) (a b : Expr) (t : TE) : Prop :=
  ∀ (pins : List (Addr × Obj)) (s : Shared) (σ : St) (H : Hp) (Q : VK), Inv X pins σ H s → t σ H Q →
    wpAny (model X.prog X.w) X.A (eval a X.env) (fun v s₁ => wpAny (model X.prog X.w) X.A (eval b X.env) (fun u s₂ => wpAny (model X.prog X.w) X.A (compareOp op v u) (EP X pins σ Q) X.xe s₂) X.xe s₁) X.xe s
theorem nobehind (b : Expr) {op : CmpOp} (h : op ≠ .In) (h2 : op ≠ .NotIn) : behindInMarks op b = false := by
  have e1 : (op == CmpOp.In) = false := by cases op <;> first | rfl | exact absurd rfl h
  have e2 : (op == CmpOp.NotIn) = false := by cases op <;> first | rfl | exact absurd rfl h2
  cases b <;> simp [behindInMarks, e1, e2]
/-- is None -/
def tIsN (ta : TE) : TE := fun σ H Q => ta σ H fun x H1 => Q (.bl (decide (x = .non))) H1
theorem RelV.none_iff {x : V} {v : Value} (r : RelV x v) : (v == Value.none) = decide (x = .non) := by
  cases x with
  | non => cases r; rfl
  | bl _ => cases r; rfl
  | int _ => obtain ⟨t, rfl⟩ := r; rfl
  | str _ => obtain ⟨t, rfl⟩ := r; rfl
  | byt _ => obtain ⟨t, rfl⟩ := r; rfl
  | flt _ => obtain ⟨t, rfl⟩ := r; rfl
  | ref _ => cases r; rfl
  | ty _ => cases r; rfl
theorem pc_isN {j pos'} (ha : PE X a ta) : PC X .Is a (.Constant .none j pos') (tIsN ta) := by
  intro pins s σ H Q I h
  refine thn (ha pins s σ H _ I h) fun v s1 ⟨x, H1, I1, r1, q1⟩ => ?_
  exact Constant_none (is_none_gen ⟨.bl _, H1, I1, by rw [r1.none_iff]; rfl, q1⟩)
/-- a comparison as a value, as a test -/
def tB (t : TE) : TT := fun σ H Q => t σ H fun x H1 => ∃ c, x = .bl c ∧ Q c H1
theorem pt_cmp {op : CmpOp} {t : TE} (h : PC X op a b t) (h1 : behindInMarks op b = false := by first | exact nobehind _ (by decide) (by decide) | rfl) : PT X (.Compare a [op] [b] pos) (tB t) := by
  intro pins s σ H Q I hw
  refine wpAny_isTrue_Compare1 (thn (h pins s σ H _ I hw) fun v s1 h1 => thn h1 fun u s2 h2 => thn h2 fun c s3 ⟨x, H1, I1, r1, q1⟩ => ?_) h1
  obtain ⟨d, rfl, q⟩ := q1
  cases r1
  exact wpAny_truthy_bool ⟨H1, I1, q⟩
/-- an expression whose value is a bool, as a test -/
theorem pt_val {e : Expr} {t : TE} (h : PE X e t) (he : ∀ whole, isTrue e X.env whole = (do let v ← whole; standAt e.pos; holding [v] (truthy v)) := by intro _; rfl) : PT X e (tB t) := by
  intro pins s σ H Q I hw
  refine isTrue_plain (thn (h pins s σ H _ I hw) fun v s1 ⟨x, H1, I1, r1, q1⟩ => ?_) (he _)
  obtain ⟨d, rfl, q⟩ := q1
  cases r1
  exact wpAny_truthy_bool ⟨H1, I1, q⟩

/-! ### and, or, not -/
variable {tA tB' : TT} {rest : List Expr}
def tAnd (t u : TT) : TT := fun σ H Q => t σ H fun c H1 => if c = true then u σ H1 Q else Q false H1
def tOr (t u : TT) : TT := fun σ H Q => t σ H fun c H1 => if c = true then Q true H1 else u σ H1 Q
def tNot (t : TT) : TT := fun σ H Q => t σ H fun c H1 => Q (!c) H1
theorem pw_and1 (ha : PT X a tA) : PW X (.BoolOp .And [a] pos) tA := by
  intro wh pins s σ H Q I h
  refine isTrue_and (thn (ha pins s σ H Q I h) fun c s1 e => ?_)
  cases c with
  | true => exact isTrue_and_nil e
  | false => exact e
theorem pw_or1 (ha : PT X a tA) : PW X (.BoolOp .Or [a] pos) tA := by
  intro wh pins s σ H Q I h
  refine isTrue_or (thn (ha pins s σ H Q I h) fun c s1 e => ?_)
  cases c with
  | false => exact isTrue_or_nil e
  | true => exact e
theorem pw_and (ha : PT X a tA) (hb : PW X (.BoolOp .And (b :: rest) pos) tB') : PW X (.BoolOp .And (a :: b :: rest) pos) (tAnd tA tB') := by
  intro wh pins s σ H Q I h
  refine isTrue_and (thn (ha pins s σ H _ I h) fun c s1 ⟨H1, I1, q1⟩ => ?_)
  cases c with
  | true => exact hb wh pins s1 σ H1 Q I1 q1
  | false => exact ⟨H1, I1, q1⟩
theorem pw_or (ha : PT X a tA) (hb : PW X (.BoolOp .Or (b :: rest) pos) tB') : PW X (.BoolOp .Or (a :: b :: rest) pos) (tOr tA tB') := by
  intro wh pins s σ H Q I h
  refine isTrue_or (thn (ha pins s σ H _ I h) fun c s1 ⟨H1, I1, q1⟩ => ?_)
  cases c with
  | true => exact ⟨H1, I1, q1⟩
  | false => exact hb wh pins s1 σ H1 Q I1 q1
theorem pt_not (ha : PT X a tA) : PT X (.UnaryOp .Not a pos) (tNot tA) := by
  intro pins s σ H Q I h
  exact isTrue_not (ha pins s σ H (fun c H1 => Q (!c) H1) I h)
/-- .. as values (bools) -/
def tAndV (ta tb : TE) : TE := fun σ H Q => ta σ H fun x H1 => ∃ c, x = .bl c ∧ if c = true then tb σ H1 Q else Q (.bl false) H1
def tNotV (ta : TE) : TE := fun σ H Q => ta σ H fun x H1 => ∃ c, x = .bl c ∧ Q (.bl (!c)) H1
theorem pe_one {op} {t : TE} (h : PE X a t) : PE X (.BoolOp op [a] pos) t := fun pins s σ H Q I hw => BoolOp_one (h pins s σ H Q I hw)
theorem pe_and (ha : PE X a ta) (hb : PE X (.BoolOp .And (b :: rest) pos) tb) : PE X (.BoolOp .And (a :: b :: rest) pos) (tAndV ta tb) := by
  intro pins s σ H Q I h
  refine BoolOp_and (thn (ha pins s σ H _ I h) fun v s1 ⟨x, H1, I1, r1, q1⟩ => ?_)
  obtain ⟨c, rfl, q1⟩ := q1
  cases r1
  refine wpAny_truthy_bool ?_
  cases c with
  | true => exact hb pins s1 σ H1 Q I1 q1
  | false => exact ⟨.bl false, H1, I1, rfl, q1⟩
theorem pe_not (ha : PE X a ta) : PE X (.UnaryOp .Not a pos) (tNotV ta) := by
  intro pins s σ H Q I h
  refine UnaryOp_ (thn (ha pins s σ H _ I h) fun v s1 ⟨x, H1, I1, r1, q1⟩ => ?_)
  obtain ⟨c, rfl, q1⟩ := q1
  cases r1
  exact not_of (wpAny_truthy_bool ⟨.bl (!c), H1, I1, rfl, q1⟩)
/-- a if t else b -/
def tIf (t : TT) (ta tb : TE) : TE := fun σ H Q => t σ H fun c H1 => if c = true then ta σ H1 Q else tb σ H1 Q
theorem pe_ifExp {c : Expr} (hc : PT X c tA) (ha : PE X a ta) (hb : PE X b tb) : PE X (.IfExp c a b pos) (tIf tA ta tb) := by
  intro pins s σ H Q I h
  refine wpAny_IfExp (thn (hc pins s σ H _ I h) fun d s1 ⟨H1, I1, q1⟩ => ?_)
  cases d with
  | true => exact ha pins s1 σ H1 Q I1 q1
  | false => exact hb pins s1 σ H1 Q I1 q1
end
end L2

namespace L2
open PySem PySem.Spec PyProof.Rows

/-! ### a list, a tuple that is read: tracked, frozen, or an object of the module -/
def SqL (K : PySem.W.Frag) (H : Hp) (a : Addr) (xs : List V) : Prop :=
  Rd H a (.lst xs) ∨
    ∃ (o : Obj) (its : Array Value) (n : Nat), K.lookup a = some o ∧ o.cls = .type "list" ∧ o.dict = none ∧ o.data = .seq its n ∧ its.size ≤ sizeLine ∧ Vals xs its.toList
def SqT (K : PySem.W.Frag) (H : Hp) (a : Addr) (xs : List V) : Prop :=
  Rd H a (.tup xs) ∨
    ∃ (o : Obj) (its : Array Value) (n : Nat), K.lookup a = some o ∧ o.cls = .type "tuple" ∧ o.data = .seq its n ∧ its.size ≤ sizeLine ∧ Vals xs its.toList
def absV : Value → Option V
  | .none => some .non
  | .bool b => some (.bl b)
  | .int i _ => some (.int i)
  | .str x _ => some (.str x)
  | .bytes b _ => some (.byt b)
  | .float b _ => some (.flt b)
  | .ref a => some (.ref a)
  | .type n => some (.ty n)
  | _ => none
theorem RelV.abs {x : V} {u : Value} (r : RelV x u) : absV u = some x := by
  cases x with
  | non => cases r; rfl
  | bl _ => cases r; rfl
  | int _ => obtain ⟨t, rfl⟩ := r; rfl
  | str _ => obtain ⟨t, rfl⟩ := r; rfl
  | byt _ => obtain ⟨t, rfl⟩ := r; rfl
  | flt _ => obtain ⟨t, rfl⟩ := r; rfl
  | ref _ => cases r; rfl
  | ty _ => cases r; rfl
theorem RelV.inj {x y : V} {u : Value} (r : RelV x u) (q : RelV y u) : x = y := Option.some.inj (r.abs.symm.trans q.abs)
theorem Vals.inj : ∀ {xs ys : List V} {us : List Value}, Vals xs us → Vals ys us → xs = ys
  | _, _, _, .nil, .nil => rfl
  | _, _, _, .cons r t, .cons r' t' => by rw [r.inj r', Vals.inj t t']
section
variable {X : Cx} {pins : List (Addr × Obj)} {σ : St} {H : Hp} {s : Shared} {a : Addr} {xs ys : List V}
theorem SqL.of {K : PySem.W.Frag} (h : H a = some (.lst xs)) : SqL K H a xs := .inl (.inl h)
theorem SqT.of {K : PySem.W.Frag} (h : H a = some (.tup xs)) : SqT K H a xs := .inl (.inl h)
theorem Inv.list (I : Inv X pins σ H s) (h : SqL X.K H a xs) : ∃ its : List Value, Vals xs its ∧ PlainL s.heap a its.toArray ∧ xs.length ≤ sizeLine := by
  rcases h with h | ⟨o, its, n, hk, hc, hd, hs, hz, r⟩
  · obtain ⟨z, its, n, r, e⟩ := h.ok I.hok
    exact ⟨its, r, ⟨_, n, e, rfl, rfl, rfl⟩, z⟩
  · refine ⟨its.toList, r, ⟨o, n, I.kIn a o hk, hc, hd, by simpa using hs⟩, ?_⟩
    have e := r.length
    simp only [Array.length_toList] at e
    omega
theorem Inv.tuple (I : Inv X pins σ H s) (h : SqT X.K H a xs) : ∃ its : List Value, Vals xs its ∧ IsTup s.heap a its.toArray ∧ xs.length ≤ sizeLine := by
  rcases h with h | ⟨o, its, n, hk, hc, hs, hz, r⟩
  · obtain ⟨z, its, r, p⟩ := h.ok I.hok
    exact ⟨its, r, p, z⟩
  · refine ⟨its.toList, r, ⟨o, I.kIn a o hk, hc, n, by simpa using hs⟩, ?_⟩
    have e := r.length
    simp only [Array.length_toList] at e
    omega
theorem Inv.list_inj (I : Inv X pins σ H s) (h : SqL X.K H a xs) (h' : SqL X.K H a ys) : xs = ys := by
  obtain ⟨its, r, ⟨o, n, e, _, _, d⟩, _⟩ := I.list h
  obtain ⟨its', r', ⟨o', n', e', _, _, d'⟩, _⟩ := I.list h'
  rw [e] at e'; cases e'
  rw [d] at d'
  injection d' with d1 _
  have : its = its' := by simpa using congrArg Array.toList d1
  subst this
  exact r.inj r'
theorem Inv.tuple_inj (I : Inv X pins σ H s) (h : SqT X.K H a xs) (h' : SqT X.K H a ys) : xs = ys := by
  obtain ⟨its, r, ⟨o, e, _, n, d⟩, _⟩ := I.tuple h
  obtain ⟨its', r', ⟨o', e', _, n', d'⟩, _⟩ := I.tuple h'
  rw [e] at e'; cases e'
  rw [d] at d'
  injection d' with d1 _
  have : its = its' := by simpa using congrArg Array.toList d1
  subst this
  exact r.inj r'
end

/-! ### another wish about exceptions -/
abbrev Cx.wish (X : Cx) (E : Value → Shared → Prop) : Cx := { X with xe := E }
/-- no exception leaves -/
abbrev Cx.nox (X : Cx) : Cx := X.wish fun _ _ => False
theorem Cx.Ok.wish {X : Cx} (ok : X.Ok) (E : Value → Shared → Prop) : (X.wish E).Ok :=
  ⟨ok.mod, ok.kind, ok.glob, ok.blt, ok.above, ok.inj, ok.has, ok.cab, ok.hd, ok.frames, ok.stk, ok.exf, ok.bs, ok.bsz, ok.noex, ok.exfs, ok.funs, ok.frf⟩
theorem Cx.Ok.unwish {X : Cx} {E : Value → Shared → Prop} (ok : (X.wish E).Ok) : X.Ok :=
  ⟨ok.mod, ok.kind, ok.glob, ok.blt, ok.above, ok.inj, ok.has, ok.cab, ok.hd, ok.frames, ok.stk, ok.exf, ok.bs, ok.bsz, ok.noex, ok.exfs, ok.funs, ok.frf⟩
section
variable {X : Cx} {pins : List (Addr × Obj)} {σ : St} {H : Hp} {s : Shared} {E : Value → Shared → Prop}
theorem Inv.wish (I : Inv X pins σ H s) (E : Value → Shared → Prop) : Inv (X.wish E) pins σ H s := ⟨I.ok.wish E, I.os, I.bare, I.base, I.loc, I.cell, I.free, I.freeC, I.pin, I.hok, I.len⟩
theorem Inv.unwish (I : Inv (X.wish E) pins σ H s) : Inv X pins σ H s := ⟨I.ok.unwish, I.os, I.bare, I.base, I.loc, I.cell, I.free, I.freeC, I.pin, I.hok, I.len⟩
theorem SP.unwish {D : Ends} {f : Flow} {s' : Shared} (h : SP (X.wish E) pins D f s') : SP X pins D f s' := by
  cases f with
  | next => obtain ⟨σ', H', I, q⟩ := h; exact ⟨σ', H', I.unwish, q⟩
  | brk => obtain ⟨σ', H', I, q⟩ := h; exact ⟨σ', H', I.unwish, q⟩
  | cont => obtain ⟨σ', H', I, q⟩ := h; exact ⟨σ', H', I.unwish, q⟩
  | ret u => obtain ⟨v, σ', H', I, r, q⟩ := h; exact ⟨v, σ', H', I.unwish, r, q⟩
theorem PSs.nox {st : List Stmt} {t : TS} (h : PSs X.nox st t) : PSs X st t := fun pins s σ H D I hw =>
  wpAny_mono (h pins s σ H D (I.wish _) hw) (fun _ _ q => q.unwish) fun _ _ z => False.elim z
end

/-! ### blocks and small statements -/
section
variable {X : Cx} {st : Stmt} {rest : List Stmt} {t u : TS} {e : Expr} {te : TE} {pos : Pos}
def tNext : TS := fun D σ H => D.nx σ H
def tSeq (t u : TS) : TS := fun D σ H => t { D with nx := u D } σ H
theorem pss_nil : PSs X [] tNext := fun _ _ σ H _ I h => wpAny_execs_nil ⟨σ, H, I, h⟩
theorem pss_cons (h1 : PS X st t) (h2 : PSs X rest u) : PSs X (st :: rest) (tSeq t u) := by
  intro pins s σ H D I h
  refine wpAny_execs_cons (thn (h1 pins s σ H { D with nx := u D } I h) fun f s1 q => ?_)
  cases f with
  | next =>
    obtain ⟨σ', H', I', q⟩ := q
    exact h2 pins s1 σ' H' D I' q
  | ret v => exact q
  | brk => exact q
  | cont => exact q
theorem pss_one (h1 : PS X st t) : PSs X [st] t := by
  intro pins s σ H D I h
  refine wpAny_execs_cons (thn (h1 pins s σ H D I h) fun f s1 q => ?_)
  cases f with
  | next => exact wpAny_execs_nil q
  | ret v => exact q
  | brk => exact q
  | cont => exact q
/-- in a def's body nothing is shown -/
theorem Inv.quiet {pins : List (Addr × Obj)} {σ : St} {H : Hp} {s : Shared} (I : Inv X pins σ H s) : interactive X.env = false := by simp [interactive, I.ok.kind]
/-- an expression whose value is dropped -/
def tDrop (te : TE) : TS := fun D σ H => te σ H fun _ H1 => D.nx σ H1
theorem ps_expr (he : PE X e te) (hs : swapsWith e none pos.line X.env = pure false := by rfl) : PS X (.Expr e pos) (tDrop te) := by
  intro pins s σ H D I h
  exact wpAny_Expr_any (thn (he pins s σ H _ I h) fun v s1 ⟨x, H1, I1, r1, q1⟩ => ⟨σ, H1, I1, q1⟩) I.quiet hs
def tRet (te : TE) : TS := fun D σ H => te σ H D.rt
theorem ps_ret (he : PE X e te) : PS X (.Return (some e) pos) (tRet te) := by
  intro pins s σ H D I h
  exact wpAny_Return_some (thn (he pins s σ H _ I h) fun v s1 ⟨x, H1, I1, r1, q1⟩ => ⟨x, σ, H1, I1, r1, q1⟩)
def tIfS (c : TT) (t u : TS) : TS := fun D σ H => c σ H fun b H1 => if b = true then t D σ H1 else u D σ H1
theorem ps_if {c : Expr} {a b : List Stmt} {tc : TT} (hc : PT X c tc) (ha : PSs X a t) (hb : PSs X b u) : PS X (.If c a b pos) (tIfS tc t u) := by
  intro pins s σ H D I h
  refine wpAny_If (thn (hc pins s σ H _ I h) fun d s1 ⟨H1, I1, q1⟩ => ?_)
  cases d with
  | true => exact ha pins s1 σ H1 D I1 q1
  | false => exact hb pins s1 σ H1 D I1 q1
/-- code that the proof never comes to -/
def tNever : TS := fun _ _ _ => False
theorem pss_never {sts : List Stmt} : PSs X sts tNever := fun _ _ _ _ _ _ h => h.elim
end

/-! ### targets -/
abbrev TG := V → St → Hp → (St → Hp → Prop) → Prop
abbrev TGs := List V → St → Hp → (St → Hp → Prop) → Prop
def PG (X : Cx) (target : Expr) (t : TG) : Prop :=
  ∀ (pins : List (Addr × Obj)) (s : Shared) (σ : St) (H : Hp) (v : V) (u : Value) (Q : St → Hp → Prop), Inv X pins σ H s → RelV v u → t v σ H Q →
    wpAny (model X.prog X.w) X.A (assign target X.env u) (fun _ s' => ∃ σ' H', Inv X pins σ' H' s' ∧ Q σ' H') X.xe s
/-- several targets, one after another -/
def PGs (X : Cx) (ts : List Expr) (t : TGs) : Prop :=
  ∀ (pins : List (Addr × Obj)) (s : Shared) (σ : St) (H : Hp) (vs : List V) (us : List Value) (Q : St → Hp → Prop), Inv X pins σ H s → Vals vs us → t vs σ H Q →
    wpAny (model X.prog X.w) X.A (assignInOrder ((assignEach ts X.env).map (·.2)) us) (fun _ s' => ∃ σ' H', Inv X pins σ' H' s' ∧ Q σ' H') X.xe s
section
variable {X : Cx} {pos : Pos}
def gName (i : Nat) : TG := fun v σ H Q => Q (σ.set i (some v)) H
theorem pg_name {i : Nat} {x : Str} (hN : X.N.Nodup) (hi : X.N[i]? = some x) (hx : Loc X.env.scope x) (hf : X.fn x = true ∨ X.env.scope.names.lookup x = some .local := by first | exact .inl rfl | exact .inr rfl | assumption) : PG X (.Name x pos) (gName i) := by
  intro pins s σ H v u Q I r h
  exact wpAny_assign_Name (store_ok I hN hi hx r (fun s' I' => ⟨_, H, I', h⟩) hf)
def gNil : TGs := fun vs σ H Q => vs = [] ∧ Q σ H
def gCons (t : TG) (u : TGs) : TGs := fun vs σ H Q => ∃ v r, vs = v :: r ∧ t v σ H fun σ' H' => u r σ' H' Q
theorem pgs_nil : PGs X [] gNil := by
  intro pins s σ H vs us Q I r h
  obtain ⟨e, h⟩ := h
  subst e
  cases r
  exact assignInOrder_nil ⟨σ, H, I, h⟩
theorem pgs_cons {e : Expr} {es : List Expr} {t : TG} {u : TGs} (h1 : PG X e t) (h2 : PGs X es u)
    (hs : (assignEach (e :: es) X.env).map (·.2) = assign e X.env :: (assignEach es X.env).map (·.2) := by rfl) : PGs X (e :: es) (gCons t u) := by
  intro pins s σ H vs us Q I r h
  obtain ⟨v, vr, e1, h⟩ := h
  subst e1
  cases r with
  | cons r rr =>
    rw [hs]
    refine assignInOrder_cons (thn (h1 pins s σ H _ _ _ I r h) fun _ s1 ⟨σ1, H1, I1, q1⟩ => ?_)
    exact h2 pins s1 σ1 H1 _ _ Q I1 rr q1
/-- (a, b, ..) = a tuple of that length -/
def gTup (K : PySem.W.Frag) (n : Nat) (t : TGs) : TG := fun v σ H Q => ∃ a xs, v = .ref a ∧ SqT K H a xs ∧ xs.length = n ∧ t xs σ H Q
theorem pg_tup {es : List Expr} {k : Nat} {t : TGs} {n : Nat} (hc : X.calm = true) (h : PGs X es t)
    (hn : (assignEach es X.env).length = n := by rfl) (hst : (assignEach es X.env).findIdx? (·.1) = none := by rfl) : PG X (.Tuple es k pos) (gTup X.K n t) := by
  intro pins s σ H v u Q I r hw
  obtain ⟨a, xs, e1, hq, hl, hw⟩ := hw
  subst e1
  cases r
  obtain ⟨its, rv, ht, hz⟩ := I.tuple hq
  refine assign_Tuple_tuple (I.ok.hd hc) ht (by simp [hn, ← hl, rv.length]) hst fun h' hx => ?_
  have I1 : Inv X pins σ H { s with heap := h' } := I.kept (t' := s.toks) fun b o e => hx b o (Nat.ne_of_lt (Heap.lt_size e)) e
  exact h pins _ σ H xs _ Q I1 (by simpa using rv) hw
/-- target = value -/
def tAsg (te : TE) (g : TG) : TS := fun D σ H => te σ H fun x H1 => g x σ H1 D.nx
theorem ps_asg {tg e : Expr} {te : TE} {g : TG} (he : PE X e te) (hg : PG X tg g) (hs : swapsWithSole [tg] e pos.line X.env = pure false := by rfl) (hw : swappedStores [tg] e X.env = pure none := by rfl)
    (h1 : (assignEach [tg] X.env).map (·.2) = [assign tg X.env] := by rfl) : PS X (.Assign [tg] e pos) (tAsg te g) := by
  intro pins s σ H D I h
  refine wpAny_Assign_stores (thn (he pins s σ H _ I h) fun v s1 ⟨x, H1, I1, r1, q1⟩ => ?_) hs hw
  rw [h1]
  exact thn (hg pins s1 σ H1 x v _ I1 r1 q1) fun _ s2 q => q
/-- name = value -/
theorem ps_set {i : Nat} {x : Str} {e : Expr} {te : TE} {pos' : Pos} (hN : X.N.Nodup) (hi : X.N[i]? = some x) (hx : Loc X.env.scope x) (he : PE X e te) (hs : swapsWith e (some (.Name x pos')) pos.line X.env = pure false := by rfl) (hf : X.fn x = true ∨ X.env.scope.names.lookup x = some .local := by first | exact .inl rfl | exact .inr rfl | assumption) :
    PS X (.Assign [.Name x pos'] e pos) (tAsg te (gName i)) := by
  intro pins s σ H D I h
  refine wpAny_Assign_Name (thn (he pins s σ H _ I h) fun v s1 ⟨y, H1, I1, r1, q1⟩ => ?_) hs
  exact store_ok I1 hN hi hx r1 (fun s2 I2 => ⟨_, H1, I2, q1⟩) hf
end

/-! ### while -/
section
variable {X : Cx} {pos : Pos}
end

/-! ### what a loop or a comprehension walks -/
/-- at turn i: it yields x (the heap may grow), or it stops -/
structure It where
  go : Nat → Hp → Prop
  yld : Nat → Hp → V → Hp → Prop
  stop : Nat → Hp → Prop
/-- the iterator's own objects may turn: they are not the frame's, not pinned, younger than the entry (or a comprehension's own) -/
def FpOk (X : Cx) (pins : List (Addr × Obj)) (H : Hp) (b : Addr) : Prop :=
  H b = none ∧ b ≠ X.env.locals ∧ b ∉ X.fs ∧ (b ∈ X.ex ∨ X.s₀.heap.objs.size ≤ b) ∧ (∀ x c, X.env.cells.lookup x = some c → c ≠ b) ∧ ∀ p ∈ X.pn ++ pins, p.1 ≠ b
theorem Inv.fpOk {X : Cx} {pins : List (Addr × Obj)} {σ : St} {H H' : Hp} {s : Shared} {b : Addr} (I : Inv X pins σ H s) (hb : s.heap.objs.size ≤ b) (hn : H' b = none) : FpOk X pins H' b := by
  refine ⟨hn, Nat.ne_of_gt (Nat.lt_of_lt_of_le I.lt hb), I.nofs hb, .inr (Nat.le_trans I.sz hb), fun x c e z => ?_, fun p hp z => ?_⟩
  · obtain ⟨v, q⟩ := I.cell x c e
    exact absurd (Nat.lt_of_lt_of_le q.lt (by rw [z]; exact hb)) (Nat.lt_irrefl _)
  · exact absurd (Nat.lt_of_lt_of_le (Heap.lt_size (I.pin p hp).1) (by rw [z]; exact hb)) (Nat.lt_irrefl _)
structure Turn (P : Program) (w : World) (K : PySem.W.Frag) (tg : Expr) (J : It) (fp : List Addr) (it : Addr) (tn : Nat → Heap → Prop) : Prop where
  mem : it ∈ fp
  obj : ∀ i h, tn i h → ∀ b ∈ fp, ∃ o, h.get? b = some o ∧ ∀ v, o.data ≠ .cell v
  keep : ∀ i h h', tn i h → (∀ b ∈ fp, ∀ o, h.get? b = some o → h'.get? b = some o) → tn i h'
  item : ∀ (X : Cx), X.prog = P → X.w = w → X.K = K → X.calm = true → ∀ (i : Nat) (pins : List (Addr × Obj)) (s : Shared) (σ : St) (H : Hp) (E : Value → Shared → Prop), Inv X pins σ H s → (∀ b ∈ fp, FpOk X pins H b) → tn i s.heap → J.go i H →
    wpAny (model P w) X.A (pyNext (.ref it)) (fun r s1 => ∃ u, r = some u ∧
      wpAny (model P w) X.A (letOwnedTupleGo tg (.ref it) u) (fun _ s2 => ∃ x H', Inv X pins σ H' s2 ∧ RelV x u ∧ J.yld i H x H' ∧ tn (i + 1) s2.heap ∧ ∀ b ∈ fp, H' b = none) E s1) E s
  done : ∀ (X : Cx), X.prog = P → X.w = w → X.K = K → X.calm = true → ∀ (i : Nat) (pins : List (Addr × Obj)) (s : Shared) (σ : St) (H : Hp) (E : Value → Shared → Prop), Inv X pins σ H s → (∀ b ∈ fp, FpOk X pins H b) → tn i s.heap → J.stop i H →
    wpAny (model P w) X.A (pyNext (.ref it)) (fun r s1 => r = none ∧ Inv X pins σ H s1) E s
  self : ∀ (A : Around) (i : Nat) (s : Shared) (Q : Value → Shared → Prop) (E : Value → Shared → Prop), tn i s.heap → Q (.ref it) s → wpAny (model P w) A (pyIter (.ref it)) Q E s
abbrev TI := St → Hp → (It → Hp → Prop) → Prop
/-- an iterator has come -/
def PIE (X : Cx) (pins : List (Addr × Obj)) (σ : St) (tg : Expr) (R : It → Hp → Prop) (itv : Value) (s2 : Shared) : Prop :=
  ∃ (it : Addr) (fp : List Addr) (tn : Nat → Heap → Prop) (J : It) (H' : Hp), itv = .ref it ∧ Inv X pins σ H' s2 ∧ Turn X.prog X.w X.K tg J fp it tn ∧ tn 0 s2.heap ∧ (∀ b ∈ fp, FpOk X pins H' b) ∧ R J H'
def PI (X : Cx) (tg iter : Expr) (wi : TI) : Prop :=
  ∀ (pins : List (Addr × Obj)) (s : Shared) (σ : St) (H : Hp) (R : It → Hp → Prop), Inv X pins σ H s → wi σ H R →
    wpAny (model X.prog X.w) X.A (eval iter X.env) (fun v s1 => wpAny (model X.prog X.w) X.A (pyIter v) (PIE X pins σ tg R) X.xe s1) X.xe s

/-- the step ahead of the store is nothing for an iterator that keeps no tuple -/
theorem go_of {M : Model} {A : Around} {E : Value → Shared → Prop} {s : Shared} {tg : Expr} {it : Addr} {u : Value} {o : Obj} {n : String} {vs : Array Value} {Q : Unit → Shared → Prop} (ho : s.heap.get? it = some o) (hc : o.cls = .type n) (hd : o.data = .fields vs)
    (hn : ["enumerate", "zip", "dict_itemiterator", "dict_reverseitemiterator", "odict_iterator", "itertools.zip_longest", "itertools.pairwise"].contains n = false) (hQ : Q () s) : wpAny M A (letOwnedTupleGo tg (.ref it) u) Q E s := by
  unfold letOwnedTupleGo
  cases tg <;> first
    | exact wpAny_pure hQ
    | (cases u <;> first
        | exact wpAny_pure hQ
        | (refine wpAny_bind (wpAny_load ho ?_)
           rw [hc, hd]
           show wpAny M A (if (["enumerate", "zip", "dict_itemiterator", "dict_reverseitemiterator", "odict_iterator", "itertools.zip_longest", "itertools.pairwise"].contains n && vs[0]? == some (rawInt _)) = true then _ else _) Q E s
           rw [if_neg (by intro h; rw [hn, Bool.false_and] at h; cases h)]
           exact wpAny_pure hQ))

/-- the list at a, as it stands at each turn (a loop may append to it) -/
def Itl (K : PySem.W.Frag) (a : Addr) : It :=
  ⟨fun i H => ∃ xs x, SqL K H a xs ∧ xs[i]? = some x, fun i H x H' => H' = H ∧ ∀ xs, SqL K H a xs → xs[i]? = some x, fun i H => ∃ xs, SqL K H a xs ∧ xs.length ≤ i⟩
/-- lo, lo + 1, .. (n of them) -/
def Itr (lo : Int) (n : Nat) : It := ⟨fun i _ => i < n, fun i H x H' => H' = H ∧ x = .int (lo + i), fun i _ => n ≤ i⟩
theorem turn_list {P : Program} {w : World} {K : PySem.W.Frag} {tg : Expr} (a it : Addr) : Turn P w K tg (Itl K a) [it] it (fun i h => h.IsListIter it a i) where
  mem := by simp
  obj := fun i h st b hb => by
    have e : b = it := by simpa using hb
    subst e
    obtain ⟨o, e, c, d⟩ := st
    exact ⟨o, e, fun v z => by rw [d] at z; cases z⟩
  keep := fun i h h' st k => st.at fun o e => k it (by simp) o e
  item := by
    intro X hP hw hK hc i pins s σ H E I hf st hg
    subst hP hw hK
    obtain ⟨xs, x, hq, hx⟩ := hg
    obtain ⟨its, rv, p, hz⟩ := I.list hq
    obtain ⟨u, hu, ru⟩ := rv.get hx
    obtain ⟨f0, f1, f2, f3, f4, f5⟩ := hf it (by simp)
    refine wpAny_pyNext_list_item st p.isList (x := u) (by simpa using hu) fun h' st' sb => ?_
    have I1 : Inv X pins σ H { s with heap := h' } := I.turned (t' := s.toks) (fun b o hb e => (sb.2 b hb).trans e) f0 f1 f3 f4 f5
    obtain ⟨o, e, c, d⟩ := id st'
    exact ⟨u, rfl, go_of (s := { s with heap := h' }) e c d (by decide) ⟨x, H, I1, ru, ⟨rfl, fun ys hy => by rw [I.list_inj hy hq]; exact hx⟩, st', fun b hb => (hf b hb).1⟩⟩
  done := by
    intro X hP hw hK hc i pins s σ H E I hf st hg
    subst hP hw hK
    obtain ⟨xs, hq, hx⟩ := hg
    obtain ⟨its, rv, p, hz⟩ := I.list hq
    obtain ⟨f0, f1, f2, f3, f4, f5⟩ := hf it (by simp)
    have hl := rv.length
    exact wpAny_pyNext_list_end (I.ok.hd hc) st p.isList (by simp; omega) fun h' eb => ⟨rfl, I.turned (t' := s.toks) (fun b o hb e => eb b o hb e) f0 f1 f3 f4 f5⟩
  self := fun _ _ _ _ _ st h => wpAny_pyIter_listiter st h
theorem turn_range {P : Program} {w : World} {K : PySem.W.Frag} {tg : Expr} (it : Addr) (lo : Int) (n : Nat) : Turn P w K tg (Itr lo n) [it] it (fun i h => IsRangeIter h it (lo + (i : Nat) * 1) ((n : Int) - (i : Nat)) 1) where
  mem := by simp
  obj := fun i h st b hb => by
    have e : b = it := by simpa using hb
    subst e
    exact ⟨_, st, fun v z => by
      have z' : Data.fields _ = Data.cell v := z
      cases z'⟩
  keep := fun i h h' st k => k it (by simp) _ st
  item := by
    intro X hP hw hK hc i pins s σ H E I hf st hg
    subst hP hw hK
    obtain ⟨f0, f1, f2, f3, f4, f5⟩ := hf it (by simp)
    have W := Walks.range (prog := X.prog) (w := X.w) (I.ok.hd hc) it lo 1 n
    refine W.item i s _ _ hg st fun v h' tk hv st' kk => ?_
    obtain ⟨t, rfl⟩ := hv
    have I1 : Inv X pins σ H { s with heap := h', toks := tk } := I.turned (fun b o hb e => kk b o (by simpa using hb) e) f0 f1 f3 f4 f5
    refine ⟨_, rfl, go_of (s := { s with heap := h', toks := tk }) (n := "range_iterator") st' rfl rfl (by decide) ⟨.int (lo + i), H, I1, ⟨t, ?_⟩, ⟨rfl, rfl⟩, st', fun b hb => (hf b hb).1⟩⟩
    rw [Int.mul_one]
  done := by
    intro X hP hw hK hc i pins s σ H E I hf st hg
    subst hP hw hK
    obtain ⟨f0, f1, f2, f3, f4, f5⟩ := hf it (by simp)
    exact wpAny_pyNext_range_end (I.ok.hd hc) st (by have : n ≤ i := hg; omega) fun h' eb => ⟨rfl, I.turned (t' := s.toks) (fun b o hb e => eb b o hb e) f0 f1 f3 f4 f5⟩
  self := fun _ _ _ _ _ st h => wpAny_pyIter_rangeiter st h
end L2

namespace L2
open PySem PySem.Spec PyProof.Rows
section
variable {X : Cx} {tg : Expr}
def iList (K : PySem.W.Frag) (tl : TE) : TI := fun σ H R => tl σ H fun x H1 => ∃ a, x = .ref a ∧ (∃ xs, SqL K H1 a xs) ∧ R (Itl K a) H1
theorem pi_list {l : Expr} {tl : TE} (hl : PE X l tl) : PI X tg l (iList X.K tl) := by
  intro pins s σ H R I h
  refine thn (hl pins s σ H _ I h) fun v s1 ⟨x, H1, I1, r1, q1⟩ => ?_
  obtain ⟨a, e, ⟨xs, hq⟩, q⟩ := q1
  subst e
  cases r1
  obtain ⟨its, rv, p, hz⟩ := I1.list hq
  refine wpAny_pyIter_list p.isList ?_
  refine ⟨s1.heap.objs.size, [s1.heap.objs.size], _, _, H1, rfl, I1.kept (t' := s1.toks) fun b o e => Heap.get?_push_of_some _ e, turn_list a _, ⟨_, Heap.get?_push_size _ rfl, rfl, rfl⟩, fun b hb => ?_, q⟩
  have e : b = s1.heap.objs.size := by simpa using hb
  subst e
  exact I1.fpOk (Nat.le_refl _) (I1.hok.fresh (Nat.le_refl _))
/-- a range object just made, walked -/
theorem range_it {pins : List (Addr × Obj)} {σ : St} {H : Hp} {s : Shared} {R : It → Hp → Prop} {E : Value → Shared → Prop} {lo hi : Int} {t u v : Tok} {tk : Nat} (I : Inv X pins σ H s) (h1 : -(2 ^ 62) ≤ lo) (h2 : lo < 2 ^ 62) (h3 : -(2 ^ 62) ≤ hi) (h4 : hi < 2 ^ 62)
    (q : R (Itr lo (hi - lo).toNat) H) : wpAny (model X.prog X.w) X.A (pyIter (.ref s.heap.objs.size)) (PIE X pins σ tg R) E { s with heap := s.heap.push { cls := .type "range", data := .fields #[.int lo t, .int hi u, .int 1 v] }, toks := tk } := by
  refine wpAny_pyIter_range (IsRange.new ..) (small_one h1 h2 h3 h4) ?_
  have I1 : Inv X pins σ H { s with heap := s.heap.push { cls := .type "range", data := .fields #[.int lo t, .int hi u, .int 1 v] }, toks := tk } := I.kept fun b o e => Heap.get?_push_of_some _ e
  refine ⟨(s.heap.push { cls := .type "range", data := .fields #[.int lo t, .int hi u, .int 1 v] }).objs.size, [(s.heap.push { cls := .type "range", data := .fields #[.int lo t, .int hi u, .int 1 v] }).objs.size], _, _, H, rfl,
    I1.kept (t' := tk) fun b o e => Heap.get?_push_of_some _ e, turn_range _ lo (hi - lo).toNat, ?_, fun b hb => ?_, q⟩
  · have e1 : lo + ((0 : Nat) : Int) * 1 = lo := by simp
    have e2 : (((hi - lo).toNat : Nat) : Int) - ((0 : Nat) : Int) = Builtin.Range.rangeSize lo hi 1 := by rw [rangeSize_one]; split <;> omega
    show IsRangeIter _ _ (lo + ((0 : Nat) : Int) * 1) ((((hi - lo).toNat : Nat) : Int) - ((0 : Nat) : Int)) 1
    rw [e1, e2]
    exact Heap.get?_push_size _ rfl
  · have e : b = (s.heap.push { cls := .type "range", data := .fields #[.int lo t, .int hi u, .int 1 v] }).objs.size := by simpa using hb
    subst e
    exact I1.fpOk (Nat.le_refl _) (I1.hok.fresh (Nat.le_refl _))
def iRng1 (ta : TA) : TI := fun σ H R => ta σ H fun vs H1 => ∃ j : Int, vs = [.int j] ∧ -(2 ^ 62) ≤ j ∧ j < 2 ^ 62 ∧ R (Itr 0 j.toNat) H1
theorem pi_range1 {a : Expr} {ta : TA} {p pos : Pos} (hg : Gl X "range") (hm : X.mg "range" = none) (ha : PA X [a] ta) (hs : starEach [a] X.env = [(false, eval a X.env)] := by rfl) : PI X tg (.Call (.Name "range" p) [a] [] pos) (iRng1 ta) := by
  intro pins s σ H R I h
  refine Call_ (ld_blt I hg hm boot_range (PyProof.Rows.callWith_type1 (thn (ha pos pins s σ H _ I h) fun us s1 ⟨vs, H1, I1, r1, q1⟩ => ?_) hs rfl))
  obtain ⟨j, e, q1, q2, q⟩ := q1
  subst e
  cases r1 with
  | cons r rr =>
    cases rr
    obtain ⟨t, rfl⟩ := r
    exact call_range_1 (range_it I1 (by omega) (by omega) q1 q2 (by simpa using q))

/-! ### for -/
/-- W: the invariant by the turn and a measure; N: what the body is to reach -/
def tFor (wi : TI) (g : TG) (tb : TS) : TS := fun D σ H => wi σ H fun J H1 => ∃ W : Nat → Nat → St → Hp → Prop, (∃ m, W 0 m σ H1) ∧ ∀ i m σ H, W i m σ H →
  (J.stop i H ∧ D.nx σ H) ∨ (J.go i H ∧ ∃ N : St → Hp → Prop, (∀ σ' H', N σ' H' → ∃ m', m' < m ∧ W (i + 1) m' σ' H') ∧ ∀ x H', J.yld i H x H' → g x σ H' fun σ2 H2 => tb { D with nx := N, ct := N, bk := D.nx } σ2 H2)
/-- the records at fp as they stand -/
def pinsAt (fp : List Addr) (h : Heap) : List (Addr × Obj) := fp.filterMap fun b => (h.get? b).map fun o => (b, o)
theorem mem_pinsAt {fp : List Addr} {h : Heap} {b : Addr} {o : Obj} (hb : b ∈ fp) (e : h.get? b = some o) : (b, o) ∈ pinsAt fp h := List.mem_filterMap.mpr ⟨b, hb, by rw [e]; rfl⟩
theorem of_pinsAt {fp : List Addr} {h : Heap} {p : Addr × Obj} (hp : p ∈ pinsAt fp h) : p.1 ∈ fp ∧ h.get? p.1 = some p.2 := by
  obtain ⟨b, hb, e⟩ := List.mem_filterMap.mp hp
  cases q : h.get? b with
  | none => rw [q] at e; cases e
  | some o =>
    rw [q] at e
    have e' : (b, o) = p := Option.some.inj e
    subst e'
    exact ⟨hb, q⟩
theorem Inv.pinned {pins : List (Addr × Obj)} {σ : St} {H : Hp} {s : Shared} {fp : List Addr} (I : Inv X pins σ H s) (hf : ∀ b ∈ fp, FpOk X pins H b) (ho : ∀ b ∈ fp, ∃ o, s.heap.get? b = some o ∧ ∀ v, o.data ≠ .cell v) : Inv X (pins ++ pinsAt fp s.heap) σ H s :=
  I.pins_of fun p hp => (List.mem_append.mp hp).elim (fun z => I.pin p (List.mem_append_right _ z)) fun z => by
    obtain ⟨hb, e⟩ := of_pinsAt z
    obtain ⟨f0, f1, f2, _⟩ := hf p.1 hb
    obtain ⟨o, e', d⟩ := ho p.1 hb
    rw [e] at e'; cases e'
    exact ⟨e, f0, f1, f2, d⟩
theorem Inv.unpinned {pins pl : List (Addr × Obj)} {σ : St} {H : Hp} {s : Shared} (I : Inv X (pins ++ pl) σ H s) : Inv X pins σ H s := I.pins_of fun p hp => I.pin p (List.mem_append_right _ (List.mem_append_left _ hp))
theorem ps_for {iter : Expr} {body : List Stmt} {wi : TI} {g : TG} {tb : TS} {pos : Pos} (hp : PassesOwn (model X.prog X.w) X.A X.env X.xe) (hc : X.calm = true) (hi : PI X tg iter wi) (hg : PG X tg g) (hb : PSs X body tb)
    (hs : ∀ x, foldedSetIterable iter X.env x = pure x := by intro _; rfl) : PS X (.For tg iter body [] pos) (tFor wi g tb) := by
  intro pins s σ H D I h
  refine wpAny_For (thn (hi pins s σ H _ I h) fun v s1 h1 => thn h1 fun itv s2 h2 => ?_) hs
  obtain ⟨it, fp, tn, J, H2, e, I2, T, st2, f2, W, ⟨m0, w0⟩, turn⟩ := h2
  subst e
  -- what stays true of the iterator's objects through the loop
  have stat : ∀ {H' : Hp}, (∀ b ∈ fp, H' b = none) → ∀ b ∈ fp, FpOk X pins H' b := fun hn b hb => ⟨hn b hb, (f2 b hb).2⟩
  refine codeAny_forLoop_any (fun n s' => ∃ i σ' H', Inv X pins σ' H' s' ∧ tn i s'.heap ∧ (∀ b ∈ fp, H' b = none) ∧ W i n σ' H') ?_ m0 ⟨0, σ, H2, I2, st2, fun b hb => (f2 b hb).1, w0⟩
  rintro n s3 ⟨i, σ3, H3, I3, st3, fr3, w3⟩
  rcases turn i n σ3 H3 w3 with ⟨stop, qn⟩ | ⟨go, N, hN, step⟩
  · refine wpAny_passesOwn hp (thn (T.done X rfl rfl rfl hc i pins s3 σ3 H3 X.xe I3 (stat fr3) st3 stop) fun r s4 ⟨hr, I4⟩ => ?_)
    subst hr
    exact wpAny_execs_nil ⟨σ3, H3, I4, qn⟩
  · refine wpAny_passesOwn hp (thn (T.item X rfl rfl rfl hc i pins s3 σ3 H3 X.xe I3 (stat fr3) st3 go) fun r s4 ⟨u, hr, h4⟩ => ?_)
    subst hr
    refine wpAny_passesOwn hp (thn h4 fun _ s5 ⟨x, H5, I5, r5, y5, st5, fr5⟩ => ?_)
    have I5' := I5.pinned (stat fr5) (T.obj _ _ st5)
    refine wpAny_passesOwn hp (thn (hg _ s5 σ3 H5 x u _ I5' r5 (step x H5 y5)) fun _ s6 ⟨σ6, H6, I6, q6⟩ => ?_)
    refine wpAny_passesOwn hp (thn (hb _ s6 σ6 H6 _ I6 q6) fun f s7 q7 => ?_)
    have again : ∀ {σ7 : St} {H7 : Hp}, Inv X (pins ++ pinsAt fp s5.heap) σ7 H7 s7 → N σ7 H7 → ∃ m, m < n ∧ ∃ i σ' H', Inv X pins σ' H' s7 ∧ tn i s7.heap ∧ (∀ b ∈ fp, H' b = none) ∧ W i m σ' H' := fun {σ7 H7} I7 n7 => by
      obtain ⟨m', hm, w7⟩ := hN σ7 H7 n7
      refine ⟨m', hm, i + 1, σ7, H7, I7.unpinned, T.keep _ _ _ st5 fun b hb o e => (I7.pin (b, o) (List.mem_append_right _ (List.mem_append_right _ (mem_pinsAt hb e)))).1, fun b hb => ?_, w7⟩
      obtain ⟨o, e, d⟩ := T.obj _ _ st5 b hb
      exact (I7.pin (b, o) (List.mem_append_right _ (List.mem_append_right _ (mem_pinsAt hb e)))).2.1
    cases f with
    | next => obtain ⟨σ7, H7, I7, n7⟩ := q7; exact again I7 n7
    | cont => obtain ⟨σ7, H7, I7, n7⟩ := q7; exact again I7 n7
    | brk => obtain ⟨σ7, H7, I7, q7⟩ := q7; exact ⟨σ7, H7, I7.unpinned, q7⟩
    | ret v => obtain ⟨x7, σ7, H7, I7, r7, q7⟩ := q7; exact ⟨x7, σ7, H7, I7.unpinned, r7, q7⟩
end

/-! ### the forms one uses -/
/-- over a list that the body leaves as it is -/
theorem for_list {K : PySem.W.Frag} {a : Addr} {xs : List V} {g : TG} {tb : TS} {D : Ends} {σ : St} {H : Hp} (Pv : Nat → St → Hp → Prop) (h0 : Pv 0 σ H) (hl : ∀ i σ H, i ≤ xs.length → Pv i σ H → SqL K H a xs)
    (hs : ∀ i x σ H, xs[i]? = some x → Pv i σ H → g x σ H fun σ2 H2 => tb { D with nx := Pv (i + 1), ct := Pv (i + 1), bk := D.nx } σ2 H2) (hd : ∀ σ H, Pv xs.length σ H → D.nx σ H) :
    ∃ W : Nat → Nat → St → Hp → Prop, (∃ m, W 0 m σ H) ∧ ∀ i m σ H, W i m σ H →
      ((Itl K a).stop i H ∧ D.nx σ H) ∨ ((Itl K a).go i H ∧ ∃ N : St → Hp → Prop, (∀ σ' H', N σ' H' → ∃ m', m' < m ∧ W (i + 1) m' σ' H') ∧ ∀ x H', (Itl K a).yld i H x H' → g x σ H' fun σ2 H2 => tb { D with nx := N, ct := N, bk := D.nx } σ2 H2) := by
  refine ⟨fun i m σ H => m = xs.length - i ∧ i ≤ xs.length ∧ Pv i σ H, ⟨xs.length, by simp, Nat.zero_le _, h0⟩, ?_⟩
  rintro i m σ H ⟨rfl, hi, p⟩
  have q := hl i σ H hi p
  by_cases hlt : i < xs.length
  · refine .inr ⟨⟨xs, xs[i], q, by simp [hlt]⟩, Pv (i + 1), fun σ' H' p' => ⟨xs.length - (i + 1), by omega, rfl, hlt, p'⟩, fun x H' y => ?_⟩
    obtain ⟨e, y⟩ := y
    subst e
    exact hs i x σ _ (y xs q) p
  · have e : i = xs.length := by omega
    subst e
    exact .inl ⟨⟨xs, q, Nat.le_refl _⟩, hd σ H p⟩
theorem for_range {lo : Int} {n : Nat} {g : TG} {tb : TS} {D : Ends} {σ : St} {H : Hp} (Pv : Nat → St → Hp → Prop) (h0 : Pv 0 σ H)
    (hs : ∀ i σ H, i < n → Pv i σ H → g (.int (lo + i)) σ H fun σ2 H2 => tb { D with nx := Pv (i + 1), ct := Pv (i + 1), bk := D.nx } σ2 H2) (hd : ∀ σ H, Pv n σ H → D.nx σ H) :
    ∃ W : Nat → Nat → St → Hp → Prop, (∃ m, W 0 m σ H) ∧ ∀ i m σ H, W i m σ H →
      ((Itr lo n).stop i H ∧ D.nx σ H) ∨ ((Itr lo n).go i H ∧ ∃ N : St → Hp → Prop, (∀ σ' H', N σ' H' → ∃ m', m' < m ∧ W (i + 1) m' σ' H') ∧ ∀ x H', (Itr lo n).yld i H x H' → g x σ H' fun σ2 H2 => tb { D with nx := N, ct := N, bk := D.nx } σ2 H2) := by
  refine ⟨fun i m σ H => m = n - i ∧ i ≤ n ∧ Pv i σ H, ⟨n, by simp, Nat.zero_le _, h0⟩, ?_⟩
  rintro i m σ H ⟨rfl, hi, p⟩
  by_cases hlt : i < n
  · refine .inr ⟨hlt, Pv (i + 1), fun σ' H' p' => ⟨n - (i + 1), by omega, rfl, hlt, p'⟩, fun x H' y => ?_⟩
    obtain ⟨e, y⟩ := y
    subst e y
    exact hs i σ _ hlt p
  · have e : i = n := by omega
    subst e
    exact .inl ⟨Nat.le_refl _, hd σ H p⟩
end L2

namespace L2
open PySem PySem.Spec PyProof.Rows

abbrev R2 := V → V → Hp → VK → Prop
/-- a two-place operation on values: f is binaryOp op, inplaceOp op or compareOp op -/
def OpR (X : Cx) (f : Value → Value → Sem Value) (r : R2) : Prop :=
  ∀ (pins : List (Addr × Obj)) (s : Shared) (σ : St) (H : Hp) (x y : V) (v u : Value) (Q : VK), Inv X pins σ H s → RelV x v → RelV y u → r x y H Q →
    wpAny (model X.prog X.w) X.A (f v u) (EP X pins σ Q) X.xe s
/-- a one-place operation -/
def UnR (X : Cx) (f : Value → Sem Value) (r : V → Hp → VK → Prop) : Prop :=
  ∀ (pins : List (Addr × Obj)) (s : Shared) (σ : St) (H : Hp) (x : V) (v : Value) (Q : VK), Inv X pins σ H s → RelV x v → r x H Q →
    wpAny (model X.prog X.w) X.A (f v) (EP X pins σ Q) X.xe s
/-- a call of a value that is known (a builtin, a type) with values -/
def CallR (X : Cx) (f : Value) (r : List V → Hp → VK → Prop) : Prop :=
  ∀ (pins : List (Addr × Obj)) (s : Shared) (σ : St) (H : Hp) (xs : List V) (us : List Value) (Q : VK), Inv X pins σ H s → Vals xs us → r xs H Q →
    wpAny (model X.prog X.w) X.A (call f us) (EP X pins σ Q) X.xe s

def tOp (r : R2) (ta tb : TE) : TE := fun σ H Q => ta σ H fun x H1 => tb σ H1 fun y H2 => r x y H2 Q
def tUn (r : V → Hp → VK → Prop) (ta : TE) : TE := fun σ H Q => ta σ H fun x H1 => r x H1 Q
/-- ints in, under C, and a value out -/
def rI (C : Int → Int → Prop) (g : Int → Int → V) : R2 := fun x y H Q => ∃ i j, x = .int i ∧ y = .int j ∧ C i j ∧ Q (g i j) H
def rI0 (g : Int → Int → V) : R2 := fun x y H Q => ∃ i j, x = .int i ∧ y = .int j ∧ Q (g i j) H
def rU (g : Int → V) : V → Hp → VK → Prop := fun x H Q => ∃ i, x = .int i ∧ Q (g i) H

section
variable {X : Cx} {a b c : Expr} {ta tb tc : TE} {pos : Pos}

theorem binT (ha : PE X a ta) (hb : PE X b tb) {pins : List (Addr × Obj)} {s : Shared} {σ : St} {H : Hp} {R : V → V → Hp → Prop} (I : Inv X pins σ H s)
    (h : ta σ H fun x H1 => tb σ H1 fun y H2 => R x y H2) {Q : Value → Shared → Prop} {f : Value → Value → Sem Value}
    (hf : ∀ v u s2 x y H2, Inv X pins σ H2 s2 → RelV x v → RelV y u → R x y H2 → wpAny (model X.prog X.w) X.A (f v u) Q X.xe s2) :
    wpAny (model X.prog X.w) X.A (eval a X.env) (fun v s₁ => wpAny (model X.prog X.w) X.A (eval b X.env) (fun u s₂ => wpAny (model X.prog X.w) X.A (f v u) Q X.xe s₂) X.xe s₁) X.xe s := by
  refine thn (ha pins s σ H _ I h) fun v s1 ⟨x, H1, I1, r1, q1⟩ => ?_
  refine thn (hb pins s1 σ H1 _ I1 q1) fun u s2 ⟨y, H2, I2, r2, q2⟩ => ?_
  exact hf v u s2 x y H2 I2 r1 r2 q2

theorem pe_op {op : Operator} {r : R2} (ho : OpR X (binaryOp op) r) (ha : PE X a ta) (hb : PE X b tb) : PE X (.BinOp a op b pos) (tOp r ta tb) := by
  intro pins s σ H Q I h
  exact wpAny_BinOp (binT ha hb I h fun v u s2 x y H2 I2 rx ry q => ho pins s2 σ H2 x y v u Q I2 rx ry q)
theorem pe_un {op : UnaryOp} {r : V → Hp → VK → Prop} (ho : UnR X (unaryOp op) r) (ha : PE X a ta) : PE X (.UnaryOp op a pos) (tUn r ta) := by
  intro pins s σ H Q I h
  exact UnaryOp_ (thn (ha pins s σ H _ I h) fun v s1 ⟨x, H1, I1, r1, q1⟩ => ho pins s1 σ H1 x v Q I1 r1 q1)

/-! ### ints -/
theorem opI {f : Value → Value → Sem Value} {C : Int → Int → Prop} {g : Int → Int → Int}
    (rule : ∀ (i j : Int) (t u : Tok) (s : Shared) (Q : Value → Shared → Prop) (E : Value → Shared → Prop), C i j → Q (.int (g i j) s.toks) { s with toks := s.toks + 1 } → wpAny (model X.prog X.w) X.A (f (.int i t) (.int j u)) Q E s) :
    OpR X f (rI C fun i j => .int (g i j)) := by
  intro pins s σ H x y v u Q I rx ry h
  obtain ⟨i, j, rfl, rfl, hc, q⟩ := h
  obtain ⟨t, rfl⟩ := rx
  obtain ⟨t', rfl⟩ := ry
  exact rule i j t t' s _ _ hc ⟨.int (g i j), H, I.tok _, ⟨_, rfl⟩, q⟩
theorem opI0 {f : Value → Value → Sem Value} {g : Int → Int → Int}
    (rule : ∀ (i j : Int) (t u : Tok) (s : Shared) (Q : Value → Shared → Prop) (E : Value → Shared → Prop), Q (.int (g i j) s.toks) { s with toks := s.toks + 1 } → wpAny (model X.prog X.w) X.A (f (.int i t) (.int j u)) Q E s) :
    OpR X f (rI0 fun i j => .int (g i j)) := by
  intro pins s σ H x y v u Q I rx ry h
  obtain ⟨i, j, rfl, rfl, q⟩ := h
  obtain ⟨t, rfl⟩ := rx
  obtain ⟨t', rfl⟩ := ry
  exact rule i j t t' s _ _ ⟨.int (g i j), H, I.tok _, ⟨_, rfl⟩, q⟩
theorem opB0 {f : Value → Value → Sem Value} {g : Int → Int → Bool}
    (rule : ∀ (i j : Int) (t u : Tok) (s : Shared) (Q : Value → Shared → Prop) (E : Value → Shared → Prop), Q (.bool (g i j)) s → wpAny (model X.prog X.w) X.A (f (.int i t) (.int j u)) Q E s) :
    OpR X f (rI0 fun i j => .bl (g i j)) := by
  intro pins s σ H x y v u Q I rx ry h
  obtain ⟨i, j, rfl, rfl, q⟩ := h
  obtain ⟨t, rfl⟩ := rx
  obtain ⟨t', rfl⟩ := ry
  exact rule i j t t' s _ _ ⟨.bl (g i j), H, I, rfl, q⟩

def CMul (i j : Int) : Prop := (-(2 ^ 64) < i ∧ i < 2 ^ 64) ∨ (-(2 ^ 64) < j ∧ j < 2 ^ 64)
theorem CMul.ok {i j : Int} (h : CMul i j) : IntMulOk i j := by
  rcases h with ⟨h1, h2⟩ | ⟨h1, h2⟩
  · exact .of_left (intBits_le_64 h1 h2)
  · exact .of_right (intBits_le_64 h1 h2)

theorem op_add : OpR X (binaryOp .Add) (rI0 fun i j => .int (i + j)) := opI0 fun _ _ _ _ _ _ _ q => add_int q
theorem op_sub : OpR X (binaryOp .Sub) (rI0 fun i j => .int (i - j)) := opI0 fun _ _ _ _ _ _ _ q => sub_int q
theorem op_mul : OpR X (binaryOp .Mult) (rI CMul fun i j => .int (i * j)) := opI fun _ _ _ _ _ _ _ hc q => mul_int q hc.ok
/-- % by a positive divisor of any size -/
theorem op_mod : OpR X (binaryOp .Mod) (rI (fun _ j => 0 < j) fun i j => .int (i % j)) := opI fun i j _ _ _ _ _ hc q => by
  have h1 : (0 : Int) < j := hc
  exact mod_int' (by omega) (by rw [Int.fmod_eq_emod_of_nonneg i (by omega)]; exact q)


theorem unI {f : Value → Sem Value} {g : Int → Int}
    (rule : ∀ (i : Int) (t : Tok) (s : Shared) (Q : Value → Shared → Prop) (E : Value → Shared → Prop), Q (.int (g i) s.toks) { s with toks := s.toks + 1 } → wpAny (model X.prog X.w) X.A (f (.int i t)) Q E s) :
    UnR X f (rU fun i => .int (g i)) := by
  intro pins s σ H x v Q I rx h
  obtain ⟨i, rfl, q⟩ := h
  obtain ⟨t, rfl⟩ := rx
  exact rule i t s _ _ ⟨.int (g i), H, I.tok _, ⟨_, rfl⟩, q⟩
theorem un_neg : UnR X (unaryOp .USub) (rU fun i => .int (-i)) := unI fun _ _ _ _ _ q => neg_int q

/-! ### bools among ints: n += (a < b) -/
end

/-! ### comparisons -/
/-- the scalars that == tells apart as data does -/
def scal : V → V → Bool
  | .non, .non => true | .non, .int _ => true | .int _, .non => true | .non, .bl _ => true | .bl _, .non => true | .non, .str _ => true | .str _, .non => true
  | .int _, .int _ => true | .bl _, .bl _ => true | .str _, .str _ => true | .byt _, .byt _ => true
  | .int _, .str _ => true | .str _, .int _ => true | .bl _, .str _ => true | .str _, .bl _ => true
  | _, _ => false
def rEq : R2 := fun x y H Q => scal x y = true ∧ Q (.bl (decide (x = y))) H
def rNe : R2 := fun x y H Q => scal x y = true ∧ Q (.bl (!decide (x = y))) H

theorem dec_int {i j : Int} : decide (V.int i = V.int j) = (i == j) := by
  rw [Bool.eq_iff_iff]
  simp
theorem dec_bl {i j : Bool} : decide (V.bl i = V.bl j) = (i == j) := by
  rw [Bool.eq_iff_iff]
  simp
theorem dec_str {i j : Str} : decide (V.str i = V.str j) = (i == j) := by
  rw [Bool.eq_iff_iff]
  simp
theorem dec_byt {i j : Array UInt8} : decide (V.byt i = V.byt j) = (i.toList == j.toList) := by
  rw [Bool.eq_iff_iff]
  cases i
  cases j
  simp

section
variable {X : Cx} {a b c : Expr} {ta tb tc : TE} {pos : Pos}
theorem fin_bl {pins : List (Addr × Obj)} {σ : St} {H : Hp} {s : Shared} {Q : VK} {k k' : Bool} (I : Inv X pins σ H s) (q : Q (.bl k) H) (e : k = k') : EP X pins σ Q (.bool k') s := by
  subst e
  exact ⟨.bl k, H, I, rfl, q⟩
theorem op_eq : OpR X (compareOp .Eq) rEq := by
  intro pins s σ H x y v u Q I rx ry h
  obtain ⟨hs, q⟩ := h
  cases x with
  | non =>
    cases rx
    cases y with
    | non => cases ry; exact PySem.EqNone.eq_none_none (fin_bl I q (by simp))
    | bl j => cases ry; exact PySem.EqNone.eq_none_bool (fin_bl I q (by simp))
    | int j => obtain ⟨t', rfl⟩ := ry; exact PySem.EqNone.eq_none_int (fin_bl I q (by simp))
    | str j => obtain ⟨t', rfl⟩ := ry; exact PySem.EqNone.eq_none_str (fin_bl I q (by simp))
    | _ => exact absurd (show false = true from hs) Bool.false_ne_true
  | bl i =>
    cases rx
    cases y with
    | non => cases ry; exact PySem.EqNone.eq_bool_none (fin_bl I q (by simp))
    | bl j => cases ry; exact eq_bool (fin_bl I q dec_bl)
    | str j => obtain ⟨t', rfl⟩ := ry; exact PySem.EqMixed.eq_bool_str (fin_bl I q (by simp))
    | _ => exact absurd (show false = true from hs) Bool.false_ne_true
  | int i =>
    obtain ⟨t, rfl⟩ := rx
    cases y with
    | non => cases ry; exact PySem.EqNone.eq_int_none (fin_bl I q (by simp))
    | int j => obtain ⟨t', rfl⟩ := ry; exact eq_int (fin_bl I q dec_int)
    | str j => obtain ⟨t', rfl⟩ := ry; exact PySem.EqMixed.eq_int_str (fin_bl I q (by simp))
    | _ => exact absurd (show false = true from hs) Bool.false_ne_true
  | str i =>
    obtain ⟨t, rfl⟩ := rx
    cases y with
    | non => cases ry; exact PySem.EqNone.eq_str_none (fin_bl I q (by simp))
    | bl j => cases ry; exact PySem.EqMixed.eq_str_bool (fin_bl I q (by simp))
    | int j => obtain ⟨t', rfl⟩ := ry; exact PySem.EqMixed.eq_str_int (fin_bl I q (by simp))
    | str j => obtain ⟨t', rfl⟩ := ry; exact eq_str (fin_bl I q dec_str)
    | _ => exact absurd (show false = true from hs) Bool.false_ne_true
  | byt i =>
    obtain ⟨t, rfl⟩ := rx
    cases y with
    | byt j => obtain ⟨t', rfl⟩ := ry; exact PySem.W.eq_bytes (fin_bl I q dec_byt)
    | _ => exact absurd (show false = true from hs) Bool.false_ne_true
  | _ => cases y <;> exact absurd (show false = true from hs) Bool.false_ne_true
theorem op_ne : OpR X (compareOp .NotEq) rNe := by
  intro pins s σ H x y v u Q I rx ry h
  obtain ⟨hs, q⟩ := h
  cases x with
  | non =>
    cases rx
    cases y with
    | non => cases ry; exact PySem.EqNone.ne_none_none (fin_bl I q (by simp))
    | bl j => cases ry; exact PySem.EqNone.ne_none_bool (fin_bl I q (by simp))
    | int j => obtain ⟨t', rfl⟩ := ry; exact PySem.EqNone.ne_none_int (fin_bl I q (by simp))
    | str j => obtain ⟨t', rfl⟩ := ry; exact PySem.EqNone.ne_none_str (fin_bl I q (by simp))
    | _ => exact absurd (show false = true from hs) Bool.false_ne_true
  | bl i =>
    cases rx
    cases y with
    | non => cases ry; exact PySem.EqNone.ne_bool_none (fin_bl I q (by simp))
    | bl j => cases ry; exact ne_bool (fin_bl I q (congrArg not dec_bl))
    | str j => obtain ⟨t', rfl⟩ := ry; exact PySem.EqMixed.ne_bool_str (fin_bl I q (by simp))
    | _ => exact absurd (show false = true from hs) Bool.false_ne_true
  | int i =>
    obtain ⟨t, rfl⟩ := rx
    cases y with
    | non => cases ry; exact PySem.EqNone.ne_int_none (fin_bl I q (by simp))
    | int j => obtain ⟨t', rfl⟩ := ry; exact ne_int (fin_bl I q (congrArg not dec_int))
    | str j => obtain ⟨t', rfl⟩ := ry; exact PySem.EqMixed.ne_int_str (fin_bl I q (by simp))
    | _ => exact absurd (show false = true from hs) Bool.false_ne_true
  | str i =>
    obtain ⟨t, rfl⟩ := rx
    cases y with
    | non => cases ry; exact PySem.EqNone.ne_str_none (fin_bl I q (by simp))
    | bl j => cases ry; exact PySem.EqMixed.ne_str_bool (fin_bl I q (by simp))
    | int j => obtain ⟨t', rfl⟩ := ry; exact PySem.EqMixed.ne_str_int (fin_bl I q (by simp))
    | str j => obtain ⟨t', rfl⟩ := ry; exact ne_str (fin_bl I q (congrArg not dec_str))
    | _ => exact absurd (show false = true from hs) Bool.false_ne_true
  | byt i =>
    obtain ⟨t, rfl⟩ := rx
    cases y with
    | byt j => obtain ⟨t', rfl⟩ := ry; exact PySem.W.ne_bytes (fin_bl I q (congrArg not dec_byt))
    | _ => exact absurd (show false = true from hs) Bool.false_ne_true
  | _ => cases y <;> exact absurd (show false = true from hs) Bool.false_ne_true

theorem op_lt : OpR X (compareOp .Lt) (rI0 fun i j => .bl (decide (i < j))) := opB0 fun _ _ _ _ _ _ _ q => lt_int q
theorem op_le : OpR X (compareOp .LtE) (rI0 fun i j => .bl (decide (i ≤ j))) := opB0 fun _ _ _ _ _ _ _ q => le_int q
theorem op_gt : OpR X (compareOp .Gt) (rI0 fun i j => .bl (decide (j < i))) := opB0 fun _ _ _ _ _ _ _ q => gt_int q
theorem op_ge : OpR X (compareOp .GtE) (rI0 fun i j => .bl (decide (j ≤ i))) := opB0 fun _ _ _ _ _ _ _ q => ge_int q


theorem op_notin_str : OpR X (compareOp .NotIn) (fun x y H Q => ∃ i j, x = .str i ∧ y = .str j ∧ Q (.bl (!(!(Builtin.Str.occurrences j i 0 j.length 1).isEmpty))) H) := by
  intro pins s σ H x y v u Q I rx ry h
  obtain ⟨i, j, rfl, rfl, q⟩ := h
  obtain ⟨t, rfl⟩ := rx
  obtain ⟨t', rfl⟩ := ry
  exact notIn_str (fin_bl I q rfl)


theorem nomark (b : Expr) {op : CmpOp} (h : op ≠ .In := by decide) (h2 : op ≠ .NotIn := by decide) : behindInMarks op b = false := by
  have e1 : (op == CmpOp.In) = false := by cases op <;> first | rfl | exact absurd rfl h
  have e2 : (op == CmpOp.NotIn) = false := by cases op <;> first | rfl | exact absurd rfl h2
  cases b <;> simp [behindInMarks, e1, e2]
/-- a comparison as a value; hm: nomark b, or (for in, not in) by with_unfolding_all rfl -/
theorem pe_cmpR {op : CmpOp} {r : R2} (ho : OpR X (compareOp op) r) (ha : PE X a ta) (hb : PE X b tb) (hm : behindInMarks op b = false) : PE X (.Compare a [op] [b] pos) (tOp r ta tb) := by
  intro pins s σ H Q I h
  exact wpAny_Compare1 (binT ha hb I h fun v u s2 x y H2 I2 rx ry q => ho pins s2 σ H2 x y v u Q I2 rx ry q) hm
/-- a reading of a value as a test -/
def tTest (t : TE) : TT := fun σ H Q => t σ H fun x H' => ∃ k, x = .bl k ∧ Q k H'
theorem pt_cmpR {op : CmpOp} {r : R2} (ho : OpR X (compareOp op) r) (ha : PE X a ta) (hb : PE X b tb) (hm : behindInMarks op b = false) : PT X (.Compare a [op] [b] pos) (tTest (tOp r ta tb)) := by
  intro pins s σ H Q I h
  refine wpAny_isTrue_Compare1 (thn (ha pins s σ H _ I h) fun v s1 ⟨x, H1, I1, r1, q1⟩ => thn (hb pins s1 σ H1 _ I1 q1) fun u s2 ⟨y, H2, I2, r2, q2⟩ =>
    thn (ho pins s2 σ H2 x y v u _ I2 r1 r2 q2) fun c s3 ⟨z, H3, I3, r3, k, e, q3⟩ => ?_) hm
  subst e
  cases r3
  exact wpAny_truthy_bool ⟨H3, I3, q3⟩
/-- a op1 b op2 c -/
def tChain (r r' : R2) (ta tb tc : TE) : TE := fun σ H Q => ta σ H fun x H1 => tb σ H1 fun y H2 => r x y H2 fun z H3 => ∃ k, z = .bl k ∧
  (if k = true then tc σ H3 fun w' H4 => r' y w' H4 Q else Q (.bl false) H3)
theorem pe_chain {op op' : CmpOp} {r r' : R2} (ho : OpR X (compareOp op) r) (ho' : OpR X (compareOp op') r') (ha : PE X a ta) (hb : PE X b tb) (hc : PE X c tc)
    (hm : lastMarks [op, op'] [b, c] = false := by with_unfolding_all rfl) : PE X (.Compare a [op, op'] [b, c] pos) (tChain r r' ta tb tc) := by
  intro pins s σ H Q I h
  refine Compare_chain (thn (ha pins s σ H _ I h) fun v s1 ⟨x, H1, I1, r1, q1⟩ => chain_link (thn (hb pins s1 σ H1 _ I1 q1) fun u s2 ⟨y, H2, I2, r2, q2⟩ =>
    thn (ho pins s2 σ H2 x y v u _ I2 r1 r2 q2) fun d s3 ⟨z, H3, I3, r3, k, e, q3⟩ => ?_)) hm
  subst e
  cases r3
  refine wpAny_truthy_bool ?_
  cases k with
  | false => exact ite_ff ⟨.bl false, H3, I3, rfl, q3⟩
  | true => exact ite_tt (chain_last (thn (hc pins s3 σ H3 _ I3 q3) fun w' s4 ⟨z', H4, I4, r4, q4⟩ => ho' pins s4 σ H4 y z' u w' Q I4 r2 r4 q4))
theorem pt_chain {op op' : CmpOp} {r r' : R2} (ho : OpR X (compareOp op) r) (ho' : OpR X (compareOp op') r') (ha : PE X a ta) (hb : PE X b tb) (hc : PE X c tc)
    (hm : lastMarks [op, op'] [b, c] = false := by with_unfolding_all rfl) : PT X (.Compare a [op, op'] [b, c] pos) (tTest (tChain r r' ta tb tc)) := by
  intro pins s σ H Q I h
  refine isTrue_chain (thn (ha pins s σ H _ I h) fun v s1 ⟨x, H1, I1, r1, q1⟩ => test_link (thn (hb pins s1 σ H1 _ I1 q1) fun u s2 ⟨y, H2, I2, r2, q2⟩ =>
    thn (ho pins s2 σ H2 x y v u _ I2 r1 r2 q2) fun d s3 ⟨z, H3, I3, r3, k, e, q3⟩ => ?_)) hm
  subst e
  cases r3
  refine wpAny_truthy_bool ?_
  cases k with
  | false =>
    obtain ⟨k', e', q'⟩ := q3
    cases e'
    exact ite_ff ⟨H3, I3, q'⟩
  | true =>
    refine ite_tt (test_last (thn (hc pins s3 σ H3 _ I3 q3) fun w' s4 ⟨z', H4, I4, r4, q4⟩ => thn (ho' pins s4 σ H4 y z' u w' _ I4 r2 r4 q4) fun d' s5 ⟨z2, H5, I5, r5, k2, e2, q5⟩ => ?_))
    subst e2
    cases r5
    exact wpAny_truthy_bool ⟨H5, I5, q5⟩

/-! ### truth -/
theorem line63 : (sizeLine : Nat) < 2 ^ 63 := by rw [sizeLine_eq]; decide

/-! ### strs and bytes -/
theorem op_add_str : OpR X (binaryOp .Add) (fun x y H Q => ∃ i j, x = .str i ∧ y = .str j ∧ i.length + j.length ≤ sizeLine ∧ Q (.str (i ++ j)) H) := by
  intro pins s σ H x y v u Q I rx ry h
  obtain ⟨i, j, rfl, rfl, hz, q⟩ := h
  obtain ⟨t, rfl⟩ := rx
  obtain ⟨t', rfl⟩ := ry
  exact add_str (fun t' tk => ⟨.str (i ++ j), H, I.tok _, ⟨_, rfl⟩, q⟩) hz


/-! ### scalar builtins, by CallR -/
theorem vals1 {x : V} {us : List Value} (r : Vals [x] us) : ∃ u, us = [u] ∧ RelV x u := by
  cases r with
  | cons r1 r2 => cases r2; exact ⟨_, rfl, r1⟩
theorem call_str_int : CallR X (.type "str") (fun xs H Q => ∃ i, xs = [.int i] ∧ i.natAbs.log2 < 1920 ∧ Q (.str (toString i)) H) := by
  intro pins s σ H xs us Q I r h
  obtain ⟨i, rfl, hz, q⟩ := h
  obtain ⟨u, rfl, t, rfl⟩ := vals1 r
  exact PySem.P.str_of_int hz ⟨.str _, H, I.tok _, ⟨_, rfl⟩, q⟩
end
end L2

namespace L2
open PySem PySem.Spec PyProof.Rows

/-! ### an instance, its attributes a map -/
structure ObjM (h : Heap) (x dx C : Addr) (mA : Str → Option Value) : Prop where
  obj : h.get? x = some (PySem.W.instObj C dx)
  ns : h.Ns1 dx mA
  ne : dx ≠ x

theorem lookIn_ns {h : Heap} {dx : Addr} {mA : Str → Option Value} (n : h.Ns1 dx mA) : ∃ od, h.get? dx = some od ∧ ∀ name, PySem.W.lookIn name od = some (mA name) := by
  obtain ⟨o, es, ep, ho, hd, hk, _, hm⟩ := n
  refine ⟨o, ho, fun name => ?_⟩
  have e := hm name
  unfold nsFind findBy at e
  rw [← Array.find?_toList] at e
  unfold PySem.W.lookIn
  rw [hd]
  dsimp only
  split
  · rename_i y q
    rw [q] at e
    exact congrArg some e
  · rename_i q
    rw [q] at e
    have a : es.toList.any (·.refKey) = false := by
      rw [List.any_eq_false]
      intro y hy
      obtain ⟨z, t, hkey⟩ := hk y (Array.mem_toList_iff.mp hy)
      simp [DictEntry.refKey, hkey]
    have a' : ¬ es.toList.any (·.refKey) = true := by rw [a]; exact Bool.false_ne_true
    rw [if_neg a']
    exact congrArg some e

theorem ObjM.look {h : Heap} {x dx C : Addr} {mA : Str → Option Value} (I : ObjM h x dx C mA) : ∃ od, PySem.W.InstAt h x (PySem.W.instObj C dx) C (some od) ∧ ∀ name, PySem.W.lookIn name od = some (mA name) :=
  let ⟨od, ho, hl⟩ := lookIn_ns I.ns
  ⟨od, ⟨I.obj, rfl, rfl, ho⟩, hl⟩

section
variable {prog : Program} {w : World} {A : Around} {E : Value → Shared → Prop} {s : Shared} {K : PySem.W.Frag} {x dx C f : Addr} {mA : Str → Option Value} {name : Str} {v : Value}

theorem get_map {expr : Bool} {Q : Value → Shared → Prop} (X : K.In s.heap) (I : ObjM s.heap x dx C mA) (hg : PySem.W.plainGet K C name = true) (hh : PySem.W.hasDictIn K C = true)
    (ha : PySem.W.findIn K (.ref C) name = some none) (hv : mA name = some v) (hv' : PySem.W.handedIn v = true) (h : Q v { s with toks := s.toks + 1 }) :
    wpAny (model prog w) A (getAttr (.ref x) name expr) Q E s := by
  obtain ⟨od, J, hl⟩ := I.look
  exact PySem.W.get_value X J (PySem.W.plainGet_of hg).1 (PySem.W.findObj_own hh ha rfl (by rw [hl, hv])) hv' h


theorem get_meth {pl : Sem Bool} {Q : Value × List Value → Shared → Prop} (X : K.In s.heap) (I : ObjM s.heap x dx C mA) (hg : PySem.W.plainGet K C name = true)
    (hf : PySem.W.findIn K (.ref C) name = some (some (.ref f))) (ht : PySem.W.isFn K (.ref f) = true) (hv : mA name = none) (h : Q (.ref f, [.ref x]) s) :
    wpAny (model prog w) A (getMethod (.ref x) name pl) Q E s := by
  obtain ⟨od, J, hl⟩ := I.look
  exact PySem.W.method_fn X J (PySem.W.plainGet_of hg).1 (PySem.W.plainGet_of hg).2 hf (beq_iff_eq.mp ht) (by show (PySem.W.lookIn name od).map (·.isSome) = some false; rw [hl, hv]; rfl) h

theorem set_map {ns : List Str} {Q : Unit → Shared → Prop} (X : K.In s.heap) (I : ObjM s.heap x dx C mA)
    (hs : PySem.W.findIn K (.ref C) "__setattr__" = some (some (.builtin "object.__setattr__"))) (hp : PySem.W.plainOver K C = true) (ht : PySem.W.takerIn K C name = some none) (hh : PySem.W.hasDictIn K C = true)
    (hw : PySem.Within mA ns) (hsz : ns.length ≤ sizeLine)
    (h : ∀ h', ObjM h' x dx C (fun y => if y = name then some v else mA y) → Heap.SameBut dx s.heap h' → Q () { s with heap := h', toks := s.toks + 2 }) :
    wpAny (model prog w) A (setAttr (.ref x) name v) Q E s := by
  obtain ⟨od, J, hl⟩ := I.look
  refine PySem.W.set_plain X J hs (PySem.W.osa_open (s := { s with toks := s.toks + 1 }) (r := none) X J hp ht fun b => ?_)
  obtain ⟨cd, hc, hd'⟩ := PySem.W.any_some hh
  have hx : s.heap.get? x = some ⟨.ref C, some dx, .plain, #[]⟩ := I.obj
  refine wpAny_bind (wpAny_pure (wpAny_bind (wpAny_bind (wpAny_loadPart hx (wpAny_bind (PySem.W.Looks.here (s := { s with toks := s.toks + 1 }) (PySem.W.looks_clsIn X hc) ?_))))))
  rw [hd']
  refine wpAny_pure (a := some dx) (wpAny_bind (wpAny_pure (wpAny_bind ?_)))
  refine wpAny_nsSet1 (s := { s with toks := s.toks + 1 }) I.ns fun h' hn2 hs2 => ?_
  obtain ⟨oD, esD, epD, hoD, hdD, hcD⟩ := hn2.count (PySem.Within.cons name v hw)
  refine wpAny_bind (wpAny_lookBehind hoD (by rw [hdD]; exact pastItsLine_dict (Nat.le_trans hcD (by rw [List.length_cons]; omega))) ?_)
  exact wpAny_pure (h _ ⟨(hs2.2 _ (Ne.symm I.ne)).trans I.obj, hn2, I.ne⟩ hs2)

/-- C(..): the dict at the heap's end, the instance behind it; then its __init__ -/
theorem make_map {R : Result → Shared → Prop} {vs : List Value} {kw : List (Str × Value)} (X : K.In s.heap) (hm : PySem.W.makesIn K C = true)
    (hi : PySem.W.findIn K (.ref C) "__init__" = some (some (.ref f))) (hf : PySem.W.typeIn K (.ref f) = some (.type "function"))
    (h : codeAny (model prog w) (A.under (.builtin "type.__call__" ⟨.ref C :: vs, kw⟩)) (.call (.ref f) ⟨.ref (s.heap.objs.size + 1) :: vs, kw⟩) (PySem.W.InitBack (s.heap.objs.size + 1) R)
      { s with heap := (s.heap.push PySem.W.emptyDict).push (PySem.W.instObj C s.heap.objs.size) }) :
    codeAny (model prog w) A (.call (.ref C) ⟨vs, kw⟩) R s := by
  obtain ⟨hh, g, d, t, os⟩ := s
  exact PySem.W.make_core (PySem.W.makes_of X hm) (PySem.W.looks_findIn X hi) (fun self => PySem.W.bind_fn X self hf) (.inl rfl) h
end

/-! ### the attributes as a list of pairs -/
def putF (f : Str) (v : V) : List (Str × V) → List (Str × V)
  | [] => [(f, v)]
  | (g, x) :: r => if g = f then (g, v) :: r else (g, x) :: putF f v r
theorem lookup_putF (f g : Str) (v : V) : ∀ fs : List (Str × V), (putF f v fs).lookup g = if g = f then some v else fs.lookup g
  | [] => by
    show List.lookup g [(f, v)] = _
    by_cases h : g = f
    · have hb : (g == f) = true := beq_iff_eq.mpr h
      simp only [List.lookup, hb, if_pos h]
    · have hb : (g == f) = false := beq_eq_false_iff_ne.mpr h
      simp only [List.lookup, hb, if_neg h]
  | (k, x) :: r => by
    have ih := lookup_putF f g v r
    rw [show putF f v ((k, x) :: r) = (if k = f then (k, v) :: r else (k, x) :: putF f v r) from rfl]
    by_cases hk : k = f
    · rw [if_pos hk]
      by_cases h : g = k
      · have hb : (g == k) = true := beq_iff_eq.mpr h
        simp only [List.lookup, hb, if_pos (h.trans hk)]
      · have hb : (g == k) = false := beq_eq_false_iff_ne.mpr h
        simp only [List.lookup, hb, if_neg (fun e : g = f => h (e.trans hk.symm))]
    · rw [if_neg hk]
      by_cases h : g = k
      · have hb : (g == k) = true := beq_iff_eq.mpr h
        simp only [List.lookup, hb, if_neg (fun e : g = f => hk (h.symm.trans e))]
      · have hb : (g == k) = false := beq_eq_false_iff_ne.mpr h
        simp only [List.lookup, hb]
        exact ih
theorem keys_putF (f : Str) (v : V) : ∀ fs : List (Str × V), f ∈ (putF f v fs).map (·.1) ∧ ∀ g, g ∈ fs.map (·.1) → g ∈ (putF f v fs).map (·.1)
  | [] => ⟨by simp [putF], fun g h => by simp at h⟩
  | (k, x) :: r => by
    obtain ⟨i1, i2⟩ := keys_putF f v r
    rw [show putF f v ((k, x) :: r) = (if k = f then (k, v) :: r else (k, x) :: putF f v r) from rfl]
    by_cases hk : k = f
    · rw [if_pos hk]
      subst hk
      exact ⟨by simp, fun g h => by simpa using h⟩
    · rw [if_neg hk]
      refine ⟨?_, fun g h => ?_⟩
      · rw [List.map_cons]
        exact List.mem_cons_of_mem _ i1
      · rw [List.map_cons] at h ⊢
        rcases List.mem_cons.mp h with e | e
        · exact List.mem_cons.mpr (.inl e)
        · exact List.mem_cons_of_mem _ (i2 g e)
theorem length_putF (f : Str) (v : V) : ∀ fs : List (Str × V), (putF f v fs).length ≤ fs.length + 1
  | [] => by simp [putF]
  | (k, x) :: r => by
    have ih := length_putF f v r
    rw [show putF f v ((k, x) :: r) = (if k = f then (k, v) :: r else (k, x) :: putF f v r) from rfl]
    by_cases hk : k = f
    · rw [if_pos hk, List.length_cons, List.length_cons]; omega
    · rw [if_neg hk, List.length_cons, List.length_cons]; omega

theorem RelO.some_of {v : V} {o : Option Value} (r : RelO (some v) o) : ∃ u, o = some u ∧ RelV v u := by
  cases o with
  | none => exact (show False from r).elim
  | some u => exact ⟨u, rfl, r⟩
theorem RelO.none_of {o : Option Value} (r : RelO none o) : o = none := by
  cases o with
  | none => rfl
  | some u => exact (show False from r).elim
theorem handed_of {v : V} {u : Value} (r : RelV v u) : PySem.W.handedIn u = true := by
  cases v with
  | non => cases (show u = Value.none from r); rfl
  | bl b => cases (show u = Value.bool b from r); rfl
  | int i => obtain ⟨t, e⟩ := (show ∃ t, u = Value.int i t from r); cases e; rfl
  | str x => obtain ⟨t, e⟩ := (show ∃ t, u = Value.str x t from r); cases e; rfl
  | byt b => obtain ⟨t, e⟩ := (show ∃ t, u = Value.bytes b t from r); cases e; rfl
  | flt b => obtain ⟨t, e⟩ := (show ∃ t, u = Value.float b t from r); cases e; rfl
  | ref a => cases (show u = Value.ref a from r); rfl
  | ty n => cases (show u = Value.type n from r); rfl

section
variable {P : Program} {w : World} {H H' : Hp} {h h' : Heap} {a C dx : Addr} {fs fs' : List (Str × V)}
theorem ins_get (hok : HOk P w H h) (e : H a = some (.ins C dx fs)) : ∃ mA, ObjM h a dx C mA ∧ (∀ f, RelO (fs.lookup f) (mA f)) ∧ PySem.Within mA (fs.map (·.1)) ∧ fs.length ≤ 1000 ∧ H dx = some (.own a) := by
  obtain ⟨d, z, ne, ob, mA, n, r, q⟩ := (show ObjOk P w H h a (.ins C dx fs) from hok a _ e)
  exact ⟨mA, ⟨ob, n, ne⟩, r, q, z, d⟩
end

/-! ### what of the text a class must have -/
structure Cls (K : PySem.W.Frag) (C : Addr) : Prop where
  pg : PySem.W.plainGet K C Str.empty = true
  hd : PySem.W.hasDictIn K C = true
  po : PySem.W.plainOver K C = true
  sa : PySem.W.findIn K (.ref C) "__setattr__" = some (some (.builtin "object.__setattr__"))
theorem Cls.get {K : PySem.W.Frag} {C : Addr} (c : Cls K C) (f : Str) : PySem.W.plainGet K C f = true := c.pg
/-- no class of it has the name -/
def NoAttr (K : PySem.W.Frag) (C : Addr) (f : Str) : Prop := PySem.W.findIn K (.ref C) f = some none
theorem NoAttr.taker {K : PySem.W.Frag} {C : Addr} {f : Str} (n : NoAttr K C f) : PySem.W.takerIn K C f = some none := by
  unfold PySem.W.takerIn
  rw [show PySem.W.findIn K (.ref C) f = some none from n]
  rfl
/-- a constant of the class -/
structure Con (K : PySem.W.Frag) (C : Addr) (f : Str) (v : V) (u : Value) : Prop where
  at_ : PySem.W.findIn K (.ref C) f = some (some u)
  rel : RelV v u
  get : PySem.W.specialIn K u "__get__" = some none
  cp : PySem.W.copiedNames.contains f = false
/-- a method: a plain def of the class or of one above it -/
structure Meth (K : PySem.W.Frag) (C : Addr) (m : Str) (f : Addr) : Prop where
  at_ : PySem.W.findIn K (.ref C) m = some (some (.ref f))
  fn : PySem.W.isFn K (.ref f) = true
  kp : PySem.W.keepIn K (.ref f) = true

section
variable {X : Cx} {pins : List (Addr × Obj)} {σ : St} {H : Hp} {s : Shared} {a C dx : Addr} {fs : List (Str × V)} {f : Str} {v : V} {A : Around} {E : Value → Shared → Prop}

theorem getattr_ok {b : Bool} {Q : Value → Shared → Prop} (I : Inv X pins σ H s) (e : H a = some (.ins C dx fs)) (c : Cls X.K C) (n : NoAttr X.K C f) (l : fs.lookup f = some v)
    (h : ∀ u s', Inv X pins σ H s' → RelV v u → Q u s') : wpAny (model X.prog X.w) A (getAttr (.ref a) f b) Q E s := by
  obtain ⟨mA, O, r, _, _, _⟩ := ins_get I.hok e
  obtain ⟨u, hu, ru⟩ := RelO.some_of (v := v) (o := mA f) (by rw [← l]; exact r f)
  exact get_map I.kIn O (c.get f) c.hd n hu (handed_of ru) (h u _ (I.tok _) ru)


theorem getmeth_ok {m : Str} {g : Addr} {pl : Sem Bool} {Q : Value × List Value → Shared → Prop} (I : Inv X pins σ H s) (e : H a = some (.ins C dx fs)) (c : Cls X.K C) (k : Meth X.K C m g) (l : fs.lookup m = none)
    (h : Q (.ref g, [.ref a]) s) : wpAny (model X.prog X.w) A (getMethod (.ref a) m pl) Q E s := by
  obtain ⟨mA, O, r, _, _, _⟩ := ins_get I.hok e
  have hn : mA m = none := RelO.none_of (by rw [← l]; exact r m)
  exact get_meth I.kIn O (c.get m) k.at_ k.fn hn h

theorem setattr_ok {y : V} {u : Value} {Q : Unit → Shared → Prop} (I : Inv X pins σ H s) (e : H a = some (.ins C dx fs)) (c : Cls X.K C) (n : NoAttr X.K C f) (hl : fs.length < 1000) (ry : RelV y u)
    (h : ∀ s', Inv X pins σ (upd H a (.ins C dx (putF f y fs))) s' → Q () s') : wpAny (model X.prog X.w) A (setAttr (.ref a) f u) Q E s := by
  obtain ⟨mA, O, r, wi, _, ho⟩ := ins_get I.hok e
  have hz : (fs.map (·.1)).length ≤ sizeLine := by rw [List.length_map, sizeLine_eq]; omega
  refine set_map I.kIn O c.sa c.po n.taker c.hd wi hz fun h' O' sb => h _ ?_
  have hd : ∃ o, h'.get? dx = some o := let ⟨o, _, _, e', _⟩ := O'.ns; ⟨o, e'⟩
  refine I.write (x := a) (e := dx) (by rw [e]; exact True.intro) (.inr ho) (fun b q hb z => (sb.2 b hb).trans z) hd ?_
  refine ⟨by rw [upd_ne O.ne]; exact ho, ?_, O.ne, O'.obj, _, O'.ns, fun g => ?_, fun g hg => ?_⟩
  · have := length_putF f y fs; omega
  · show RelO ((putF f y fs).lookup g) (if g = f then some u else mA g)
    rw [lookup_putF]
    by_cases q : g = f
    · rw [if_pos q, if_pos q]; exact ry
    · rw [if_neg q, if_neg q]; exact r g
  · by_cases q : g = f
    · rw [q]; exact (keys_putF f y fs).1
    · refine (keys_putF f y fs).2 g (wi g fun z => hg ?_)
      show (if g = f then some u else mA g) = none
      rw [if_neg q]; exact z

/-- a new instance, tracked, without attributes -/
theorem Inv.made (I : Inv X pins σ H s) : Inv X pins σ (upd (upd H s.heap.objs.size (.own (s.heap.objs.size + 1))) (s.heap.objs.size + 1) (.ins C s.heap.objs.size []))
    { s with heap := (s.heap.push PySem.W.emptyDict).push (PySem.W.instObj C s.heap.objs.size) } := by
  have e1 : (s.heap.push PySem.W.emptyDict).get? s.heap.objs.size = some PySem.W.emptyDict := Heap.get?_push_size s.heap rfl
  have e2 : ((s.heap.push PySem.W.emptyDict).push (PySem.W.instObj C s.heap.objs.size)).get? (s.heap.objs.size + 1) = some (PySem.W.instObj C s.heap.objs.size) := by
    have := Heap.get?_push_size (s.heap.push PySem.W.emptyDict) (o := PySem.W.instObj C s.heap.objs.size) rfl
    rwa [Heap.size_push] at this
  have e3 : (s.heap.push PySem.W.emptyDict).Ns s.heap.objs.size (fun _ => none) := ⟨PySem.W.emptyDict, #[], _, e1, rfl, (fun e he => absurd he (by simp)), fun _ => rfl⟩
  have I1 := I.laid (a := s.heap.objs.size) (o := .own (s.heap.objs.size + 1)) (h' := s.heap.push PySem.W.emptyDict) (t' := s.toks) (fun b u q => Heap.get?_push_of_some _ q) (Nat.le_refl _) ⟨_, e1⟩
  refine I1.laid (a := s.heap.objs.size + 1) (o := .ins C s.heap.objs.size []) (t' := s.toks) (fun b u q => Heap.get?_push_of_some _ q) (Nat.le_of_eq (Heap.size_push _ _)) ?_
  have ne : s.heap.objs.size ≠ s.heap.objs.size + 1 := Nat.ne_of_lt (Nat.lt_succ_self _)
  refine ⟨by rw [upd_ne ne, upd_same], Nat.zero_le _, ne, e2, fun _ => none, (Heap.Ns1.of_empty e3).at fun o q => Heap.get?_push_of_some _ q, fun _ => True.intro, fun y hy => absurd rfl hy⟩

/-- e.f where nothing but the object is asked: through attributeBase (super) and the last hold -/
theorem attr_of {prog : Program} {w : World} {env : Env} {e : Expr} {f : Str} {pos : Pos} {s : Shared} {Q : Value → Shared → Prop} (hb : attributeBase e f env (eval e env) = eval e env)
    (h : wpAny (model prog w) A (eval e env) (fun o s₁ => wpAny (model prog w) A (getAttr o f true) Q E s₁) E s) : wpAny (model prog w) A (eval (.Attribute e f pos) env) Q E s :=
  Attribute_any_ h (by rw [arm_eval_Attribute, hb])
end

/-! ### readings and rules -/
/-- e.f, an attribute of the instance -/
def tFld (K : PySem.W.Frag) (ta : TE) (f : Str) : TE := fun σ H Q => ta σ H fun x H1 => ∃ a C dx fs v, x = .ref a ∧ H1 a = some (.ins C dx fs) ∧ Cls K C ∧ NoAttr K C f ∧ fs.lookup f = some v ∧ Q v H1
/-- e.f = value -/
def sFld (K : PySem.W.Frag) (ta tv : TE) (f : Str) : TS := fun D σ H => tv σ H fun y H1 => ta σ H1 fun x H2 => ∃ a C dx fs, x = .ref a ∧ H2 a = some (.ins C dx fs) ∧ Cls K C ∧ NoAttr K C f ∧ fs.length < 1000 ∧
  D.nx σ (upd H2 a (.ins C dx (putF f y fs)))

section
variable {X : Cx} {o e value : Expr} {f : Str} {pos pos' tpos : Pos} {ta tv : TE}
theorem pe_fld (he : PE X e ta) (hb : attributeBase e f X.env (eval e X.env) = eval e X.env) : PE X (.Attribute e f pos) (tFld X.K ta f) := by
  intro pins s σ H Q I h
  refine attr_of hb (thn (he pins s σ H _ I h) fun u s1 ⟨x, H1, I1, rx, a, C, dx, fs, v, ex, ea, c, n, l, q⟩ => ?_)
  subst ex
  obtain rfl : u = Value.ref a := rx
  exact getattr_ok I1 ea c n l fun u' s2 I2 ru => ⟨v, H1, I2, ru, q⟩
theorem ps_fld (ha : PE X o ta) (hv : PE X value tv) (hs : swapsWith value (some (.Attribute o f pos')) pos.line X.env = pure false) : PS X (.Assign [.Attribute o f pos'] value pos) (sFld X.K ta tv f) := by
  intro pins s σ H D I h
  refine plainObj_wpAny_Assign_Attribute (thn (hv pins s σ H _ I h) fun u s1 ⟨y, H1, I1, ry, q⟩ => thn (ha pins s1 σ H1 _ I1 q) fun ov s2 ⟨x, H2, I2, rx, a, C, dx, fs, ex, ea, c, n, l, q2⟩ => ?_) hs
  subst ex
  obtain rfl : ov = Value.ref a := rx
  exact setattr_ok I2 ea c n l ry fun s3 I3 => ⟨σ, _, I3, q2⟩

end

/-! ### isinstance -/
section
variable {X : Cx} {pins : List (Addr × Obj)} {σ : St} {H : Hp} {s : Shared} {A : Around} {E : Value → Shared → Prop} {Q : Value → Shared → Prop} {c : Value} {b : Bool}
/-- the type of a value, as the fragment's deciders take it; for an instance its class -/
inductive TyOf (K : PySem.W.Frag) (H : Hp) : V → Value → Prop where
  | non : TyOf K H .non (.type "NoneType")
  | bl (x : Bool) : TyOf K H (.bl x) (.type "bool")
  | int (i : Int) : TyOf K H (.int i) (.type "int")
  | str (x : Str) : TyOf K H (.str x) (.type "str")
  | flt (x : UInt64) : TyOf K H (.flt x) (.type "float")
  | lst {a : Addr} {xs : List V} (e : H a = some (.lst xs)) : TyOf K H (.ref a) (.type "list")
  | frz {a : Addr} {o : Obj} {xs : List V} (e : H a = some (.frz o (.lst xs))) : TyOf K H (.ref a) (.type "list")
  | tup {a : Addr} {xs : List V} (e : H a = some (.tup xs)) : TyOf K H (.ref a) (.type "tuple")
  | dK {a : Addr} {kvs : List (Key × V)} (e : H a = some (.dK kvs)) : TyOf K H (.ref a) (.type "dict")
  | dT {a : Addr} {kvs : List (List Key × V)} (e : H a = some (.dT kvs)) : TyOf K H (.ref a) (.type "dict")
  | ins {a C dx : Addr} {fs : List (Str × V)} (e : H a = some (.ins C dx fs)) (cl : Cls K C) (ha : PySem.W.findIn K (.ref C) "__class__" = some (some (.builtin "object.__class__")))
      (hn : PySem.W.specialIn K (.builtin "object.__class__") "__get__" = some (some (.builtin "getset_descriptor.__get__"))) (htk : PySem.W.takesIn K (.builtin "object.__class__") = some true)
      (hm : PySem.W.mroIn K C (.type "object") = some true) : TyOf K H (.ref a) (.ref C)
/-- isinstance(x, c) for one class c, a built-in or an own one: kitOne's answer -/
theorem isinst_ok {x : V} {u t : Value} (I : Inv X pins σ H s) (rx : RelV x u) (ty : TyOf X.K H x t) (e : PySem.W.kitOne X.K t c = some b) (h : ∀ tk, Q (.bool b) { s with toks := tk }) :
    wpAny (model X.prog X.w) A (call (.builtin "isinstance") [u, c]) Q E s := by
  cases ty with
  | non => cases (show u = Value.none from rx); exact PySem.W.kia_one PySem.W.kitx_none I.kIn True.intro e (fun z => nomatch z) h
  | bl y => cases (show u = Value.bool y from rx); exact PySem.W.kia_one PySem.W.kitx_bool I.kIn True.intro e (fun z => nomatch z) h
  | int i => obtain ⟨t, q⟩ := (show ∃ t, u = Value.int i t from rx); cases q; exact PySem.W.kia_one PySem.W.kitx_int I.kIn True.intro e (fun z => nomatch z) h
  | str y => obtain ⟨t, q⟩ := (show ∃ t, u = Value.str y t from rx); cases q; exact PySem.W.kia_one PySem.W.kitx_str I.kIn True.intro e (fun z => nomatch z) h
  | flt y => obtain ⟨t, q⟩ := (show ∃ t, u = Value.float y t from rx); cases q; exact PySem.W.kia_one PySem.W.kitx_float I.kIn True.intro e (fun z => nomatch z) h
  | @lst a xs ea =>
    cases (show u = Value.ref a from rx)
    obtain ⟨_, _, n, _, h1⟩ := (show ObjOk X.prog X.w H s.heap a (.lst xs) from I.hok a _ ea)
    exact PySem.W.kia_one PySem.W.kitx_list I.kIn ⟨_, h1, rfl⟩ e (fun z => nomatch z) h
  | @frz a ob xs ea =>
    cases (show u = Value.ref a from rx)
    obtain ⟨_, _, _, n, _, h1⟩ := (show ObjOk X.prog X.w H s.heap a (.frz ob (.lst xs)) from I.hok a _ ea)
    exact PySem.W.kia_one PySem.W.kitx_list I.kIn ⟨_, h1, rfl⟩ e (fun z => nomatch z) h
  | @tup a xs ea =>
    cases (show u = Value.ref a from rx)
    obtain ⟨_, _, _, p⟩ := (show ObjOk X.prog X.w H s.heap a (.tup xs) from I.hok a _ ea)
    obtain ⟨o, h1, h2, _⟩ := p
    exact PySem.W.kia_one PySem.W.kitx_tuple I.kIn ⟨o, h1, h2⟩ e (fun z => nomatch z) h
  | @dK a kvs ea =>
    cases (show u = Value.ref a from rx)
    obtain ⟨_, _, vs, _, p⟩ := (show ObjOk X.prog X.w H s.heap a (.dK kvs) from I.hok a _ ea)
    obtain ⟨o, es, ep, h1, h2, _⟩ := p
    exact PySem.W.kia_one PySem.W.kitx_dict I.kIn ⟨o, h1, h2.1⟩ e (fun z => nomatch z) h
  | @dT a kvs ea =>
    cases (show u = Value.ref a from rx)
    obtain ⟨_, _, xs, _, o, es, ep, h1, h2, _⟩ := (show ObjOk X.prog X.w H s.heap a (.dT kvs) from I.hok a _ ea)
    exact PySem.W.kia_one PySem.W.kitx_dict I.kIn ⟨o, h1, h2.1⟩ e (fun z => nomatch z) h
  | @ins a C dx fs ea cl ha hn htk hm =>
    cases (show u = Value.ref a from rx)
    obtain ⟨mA, O, _⟩ := ins_get I.hok ea
    obtain ⟨od, J, _⟩ := O.look
    exact PySem.W.kia_one (PySem.W.kitx_own (cl.get _) cl.hd ha hn htk hm) I.kIn J e (fun z => nomatch z) h
end
end L2

namespace L2
open PySem PySem.Spec PyProof.Rows

/-! ### room -/
structure Room (k : Nat) (A : Around) : Prop where
  hd : A.handled = none
  dp : A.depth + 3 * k + 5 < recursionLimit
  un : A.units + 16 * k + 200 < cLine
theorem Room.mono {j k : Nat} {A : Around} (r : Room k A) (h : j ≤ k) : Room j A := ⟨r.hd, by have := r.dp; omega, by have := r.un; omega⟩
theorem Room.deeper {k : Nat} {A : Around} (r : Room (k + 1) A) (env : Env) : Room k (A.deeper env) :=
  ⟨r.hd, by have := r.dp; show A.depth + 1 + 3 * k + 5 < _; omega, by have := r.un; show A.units + 3 + 16 * k + 200 < _; omega⟩
theorem make_depth {A : Around} {C : Addr} {us : List Value} {kw : List (Str × Value)} : (A.under (.builtin "type.__call__" ⟨.ref C :: us, kw⟩)).depth = A.depth + 1 := by
  first | rfl | simp [Around.under, Code.weight, Code.isCreation, Code.isGuard, Code.isCaller, Code.frames, Code.isFrame, guardIds]
theorem make_units {A : Around} {C : Addr} {us : List Value} {kw : List (Str × Value)} : (A.under (.builtin "type.__call__" ⟨.ref C :: us, kw⟩)).units = A.units + 1 := by
  first | rfl | simp [Around.under, Code.cUnits, Code.frames, Code.isFrame]
theorem Room.make {k : Nat} {A : Around} (r : Room (k + 1) A) (C : Addr) (us : List Value) (kw : List (Str × Value)) : Room k (A.under (.builtin "type.__call__" ⟨.ref C :: us, kw⟩)) :=
  ⟨r.hd, by have := r.dp; rw [make_depth]; omega, by have := r.un; rw [make_units]; omega⟩
theorem Room.depth {k : Nat} {A : Around} (r : Room k A) : A.depth < recursionLimit := by have := r.dp; omega

/-! ### argument lists and displays -/
def tNil : TA := fun _ H Q => Q [] H
def tCons (ta : TE) (tr : TA) : TA := fun σ H Q => ta σ H fun x H1 => tr σ H1 fun xs H2 => Q (x :: xs) H2
section
variable {X : Cx} {e : Expr} {es : List Expr} {te : TE} {t : TA} {pos : Pos}
theorem pa_nil : PA X [] tNil := fun _ _ _ _ H Q I h => Calls.spliced_nil ⟨[], H, I, .nil, h⟩
theorem pa_cons (ha : PE X e te) (hr : PA X es t) (hs : starEach (e :: es) X.env = (false, eval e X.env) :: starEach es X.env := by rfl) : PA X (e :: es) (tCons te t) := by
  intro pos pins s σ H Q I h
  rw [hs]
  show wpAny _ _ (spliced ((false, eval e X.env) :: backTo pos (starEach es X.env))) _ _ s
  refine Calls.spliced_cons (thn (ha pins s σ H _ I h) fun u s1 ⟨x, H1, I1, r1, q1⟩ => ?_)
  exact thn (hr pos pins s1 σ H1 _ I1 q1) fun us s2 ⟨xs, H2, I2, r2, q2⟩ => ⟨x :: xs, H2, I2, .cons r1 r2, q2⟩

/-- a tuple, a list of written items -/
def tTup (t : TA) : TE := fun σ H Q => t σ H fun xs H1 => xs.length ≤ sizeLine ∧ ∀ p, H1 p = none → Q (.ref p) (upd H1 p (.tup xs))
def tLst (t : TA) : TE := fun σ H Q => t σ H fun xs H1 => xs.length ≤ sizeLine ∧ ∀ p, H1 p = none → Q (.ref p) (upd H1 p (.lst xs))
theorem pe_tup {x1} (h : PA X es t) : PE X (.Tuple es x1 pos) (tTup t) := by
  intro pins s σ H Q I hq
  refine wpAny_Tuple_spliced (thn (h pos pins s σ H _ I hq) fun us s1 ⟨xs, H1, I1, r, z, q⟩ => ⟨by rw [← r.length]; exact z, ?_⟩)
  have hf : H1 s1.heap.objs.size = none := I1.hok.fresh (Nat.le_refl _)
  refine ⟨.ref s1.heap.objs.size, upd H1 s1.heap.objs.size (.tup xs), I1.laid (t' := s1.toks) (fun b u e => Heap.get?_push_of_some _ e) (Nat.le_refl _) ?_, rfl, q _ hf⟩
  exact ⟨z, us, r, ⟨_, Heap.get?_push_size _ rfl, rfl, _, rfl⟩⟩
theorem pe_lst (h : PA X es t) : PE X (.List es pos) (tLst t) := by
  intro pins s σ H Q I hq
  refine wpAny_List_spliced (thn (h pos pins s σ H _ I hq) fun us s1 ⟨xs, H1, I1, r, z, q⟩ => ⟨by rw [← r.length]; exact z, ?_⟩)
  have hf : H1 s1.heap.objs.size = none := I1.hok.fresh (Nat.le_refl _)
  refine ⟨.ref s1.heap.objs.size, upd H1 s1.heap.objs.size (.lst xs), I1.laid (t' := s1.toks) (fun b u e => Heap.get?_push_of_some _ e) (Nat.le_refl _) ?_, rfl, q _ hf⟩
  exact ⟨z, us, 0, r, Heap.get?_push_size _ rfl⟩
end

/-! ### what a def promises -/
/-- a def's promise: the bound arguments in the parameters' order, the heap, the wanted end, the wanted exception -/
abbrev Sp := List V → Hp → VK → XK → Prop
/-- how an exception lies behind a call (file 08 gives it): the callers' frames, abstract heap and state ahead of the call, the wish, the exception, the state -/
abbrev CXT := List Env → Hp → Shared → XK → Value → Shared → Prop

/-- the state at a call -/
structure Env0 (P : Program) (w : World) (K : PySem.W.Frag) (mg : Str → Option Value) (base : Heap) (A : Around) (outer : List Env) (s : Shared) (H : Hp) : Prop where
  frames : A.frames = some outer
  mod : Mod K mg base
  bs : ∀ b o, base.get? b = some o → s.heap.get? b = some o ∧ H b = none
  bsz : base.objs.size ≤ s.heap.objs.size
  funs : s.heap.FunFrames base outer
  frf : ∀ b ∈ frs outer, H b = none
  hok : HOk P w H s.heap
  bare : AllBare s.gens
/-- a call's end -/
def CE (outer : List Env) (P : Program) (w : World) (H : Hp) (s : Shared) (Q : VK) (u : Value) (s' : Shared) : Prop :=
  ∃ v H', s'.os = s.os ∧ AllBare s'.gens ∧ Un (frs outer) [] H H' s.heap s'.heap ∧ HOk P w H' s'.heap ∧ RelV v u ∧ Q v H'
def CR (CX : CXT) (outer : List Env) (P : Program) (w : World) (H : Hp) (s : Shared) (Q : VK) (E : XK) (r : Result) (s' : Shared) : Prop :=
  match r with
  | .ok (.ret u) => CE outer P w H s Q u s'
  | .ok _ => False
  | .error e => CX outer H s E e s'
structure FnOk (P : Program) (w : World) (K : PySem.W.Frag) (mg : Str → Option Value) (base : Heap) (CX : CXT) (k : Nat) (f : Addr) (fd : FuncData) (ps : List Str) (sp : Sp) : Prop where
  len : ∀ vs H Q E, sp vs H Q E → vs.length = ps.length
  run : ∀ (A : Around) (outer : List Env) (s : Shared) (H : Hp) (args : Args) (us : List Value) (vs : List V) (Q : VK) (E : XK), Room k A → Env0 P w K mg base A outer s H → BindsTo s fd args (ps.zip us) → Vals vs us → sp vs H Q E →
    codeAny (model P w) A (.call (.ref f) args) (CR CX outer P w H s Q E) s
theorem FnOk.mono {P : Program} {w : World} {K : PySem.W.Frag} {mg : Str → Option Value} {base : Heap} {CX : CXT} {j k : Nat} {f : Addr} {fd : FuncData} {ps : List Str} {sp : Sp} (F : FnOk P w K mg base CX j f fd ps sp) (h : j ≤ k) :
    FnOk P w K mg base CX k f fd ps sp := ⟨F.len, fun A outer s H args us vs Q E hr => F.run A outer s H args us vs Q E (hr.mono h)⟩

theorem Env0.make {P : Program} {w : World} {K : PySem.W.Frag} {mg : Str → Option Value} {base : Heap} {A : Around} {outer : List Env} {s : Shared} {H : Hp} (e : Env0 P w K mg base A outer s H) (C : Addr) (us : List Value) (kw : List (Str × Value)) :
    Env0 P w K mg base (A.under (.builtin "type.__call__" ⟨.ref C :: us, kw⟩)) outer s H := ⟨by first | exact e.frames | (simpa [Around.under, Code.envs, Code.isFrame, pushEnvs] using e.frames), e.mod, e.bs, e.bsz, e.funs, e.frf, e.hok, e.bare⟩

section
variable {X : Cx} {pins : List (Addr × Obj)} {σ : St} {H : Hp} {s s' : Shared}
/-- from a body: what a callee wants -/
theorem Inv.env0 (I : Inv X pins σ H s) : Env0 X.prog X.w X.K X.mg X.base X.A X.stack s H :=
  ⟨I.ok.frames, I.ok.mod, I.bs, Nat.le_trans I.ok.bsz I.sz, I.stack, I.stkFree, I.hok, I.bare⟩
/-- behind a call -/
theorem Inv.after {Q : VK} {u : Value} (I : Inv X pins σ H s) (h : CE X.stack X.prog X.w H s Q u s') : EP X pins σ Q u s' := by
  obtain ⟨v, H', os, bare, un, hok, r, q⟩ := h
  obtain ⟨hh, g, d, t, os'⟩ := s'
  obtain rfl : os' = s.os := os
  exact ⟨v, H', I.call (h' := hh) (g' := g) (d' := d) (t' := t) (ch := []) un hok bare (fun b z => absurd z (by simp)), r, q⟩
end

/-! ### calls -/
/-- f(..): the written arguments, then the defaults dvs; E: what is wanted of an exception -/
def tCall (sp : Sp) (dvs : List V) (E : XK) (t : TA) : TE := fun σ H Q => t σ H fun vs H1 => sp (vs ++ dvs) H1 Q E
/-- o.m(..) of an instance of the class at C -/
def tMeth (C : Addr) (m : Str) (sp : Sp) (dvs : List V) (E : XK) (ta : TE) (t : TA) : TE := fun σ H Q => ta σ H fun x H1 => ∃ a dx fs, x = .ref a ∧ H1 a = some (.ins C dx fs) ∧ fs.lookup m = none ∧
  t σ H1 fun vs H2 => sp (x :: (vs ++ dvs)) H2 Q E
/-- C(..): a new instance and its dict, then __init__ -/
def tMake (C : Addr) (sp : Sp) (dvs : List V) (E : XK) (t : TA) : TE := fun σ H Q => t σ H fun vs H1 => ∀ x dx, H1 x = none → H1 dx = none → dx ≠ x →
  sp (.ref x :: (vs ++ dvs)) (upd (upd H1 dx (.own x)) x (.ins C dx [])) (fun v H2 => v = .non ∧ Q (.ref x) H2) E

/-- how the parameters are bound: us the positional arguments, kw the keywords' values by name, ds the defaults that fill up -/
def Binds (K : PySem.W.Frag) (fd : FuncData) (ps : List Str) (ds : List Value) : Prop :=
  ∀ (s : Shared) (us : List Value), K.In s.heap → (us ++ ds).length = ps.length → BindsTo s fd ⟨us, []⟩ (ps.zip (us ++ ds))
/-- every parameter is given -/
theorem Binds.all {K : PySem.W.Frag} {fd : FuncData} {ps : List Str} (h : ∀ us : List Value, us.length = ps.length → bindArgs fd ⟨us, []⟩ = pure (ps.zip us)) : Binds K fd ps [] := fun s us _ hl => by
  rw [List.append_nil] at hl ⊢
  exact .of_eq (h us hl)

/-- an exception of a callee reaches what this body wants of exceptions -/
def Passes (CX : CXT) (X : Cx) (E : XK) : Prop := ∀ (pins : List (Addr × Obj)) (σ : St) (H : Hp) (s : Shared) (e : Value) (s' : Shared), Inv X pins σ H s → CX X.stack H s E e s' → X.xe e s'

section
variable {X : Cx} {CX : CXT} {k : Nat} {f C : Addr} {fd : FuncData} {ps : List Str} {sp : Sp} {dvs : List V} {ds : List Value} {E : XK} {x m : Str} {p pos apos : Pos} {e o : Expr} {es : List Expr} {ta : TE} {t : TA}

/-- the callee runs -/
theorem run_fn {pins : List (Addr × Obj)} {σ : St} {H : Hp} {s : Shared} {Q : VK} {us : List Value} {vs : List V} (F : FnOk X.prog X.w X.K X.mg X.base CX k f fd ps sp) (hr : Room k X.A) (hb : Binds X.K fd ps ds) (hd : Vals dvs ds) (hx : Passes CX X E)
    (I : Inv X pins σ H s) (r : Vals vs us) (h : sp (vs ++ dvs) H Q E) : wpAny (model X.prog X.w) X.A (call (.ref f) us) (EP X pins σ Q) X.xe s := by
  have r2 : Vals (vs ++ dvs) (us ++ ds) := r.append hd
  have hl : (us ++ ds).length = ps.length := by rw [← r2.length]; exact F.len _ _ _ _ h
  refine wpAny_call (codeAny_mono (F.run X.A X.stack s H ⟨us, []⟩ (us ++ ds) (vs ++ dvs) Q E hr I.env0 (hb s us I.kIn hl) r2 h) fun r s' hq => ?_)
  cases r with
  | error e => exact hx pins σ H s e s' I hq
  | ok fl =>
    cases fl with
    | ret u => exact I.after hq
    | next => exact False.elim hq
    | brk => exact False.elim hq
    | cont => exact False.elim hq

theorem pe_call (F : FnOk X.prog X.w X.K X.mg X.base CX k f fd ps sp) (hr : Room k X.A) (hg : Gl X x) (hm : X.mg x = some (.ref f)) (hk : PySem.W.keepIn X.K (.ref f) = true) (hb : Binds X.K fd ps ds) (hd : Vals dvs ds) (hx : Passes CX X E)
    (ha : PA X (e :: es) t) (hdb : (x == ("__debug__" : Str)) = false := by decide) (he : starEach (e :: es) X.env = (false, eval e X.env) :: starEach es X.env := by rfl) (hpl : (backTo pos (starEach es X.env)).any (·.1) = false := by rfl) :
    PE X (.Call (.Name x p) (e :: es) [] pos) (tCall sp dvs E t) := by
  intro pins s σ H Q I h
  refine wpAny_Call_Name_kw (ld_glob I hg hm ?_ hdb)
  refine PySem.W.callWith_K (h₀ := X.base) I.ok.mod.kin hk (thn (ha pos pins s σ H _ I h) fun us s1 ⟨vs, H1, I1, r, q⟩ => ⟨I1.kIn, ?_⟩) he hpl
  exact run_fn F hr hb hd hx I1 r q
theorem pe_call0 (F : FnOk X.prog X.w X.K X.mg X.base CX k f fd ps sp) (hr : Room k X.A) (hg : Gl X x) (hm : X.mg x = some (.ref f)) (hk : PySem.W.keepIn X.K (.ref f) = true) (hb : Binds X.K fd ps ds) (hd : Vals dvs ds) (hx : Passes CX X E)
    (hdb : (x == ("__debug__" : Str)) = false := by decide) : PE X (.Call (.Name x p) [] [] pos) (tCall sp dvs E tNil) := by
  intro pins s σ H Q I h
  refine wpAny_Call_Name_kw (ld_glob I hg hm ?_ hdb)
  exact PySem.W.callWith_K0 I.kIn hk (run_fn (us := []) F hr hb hd hx I .nil h)

/-- o.m() -/
theorem pe_meth0 {pl : Sem Bool} (he : PE X o ta) (c : Cls X.K C) (hm : Meth X.K C m f) (F : FnOk X.prog X.w X.K X.mg X.base CX k f fd ps sp) (hr : Room k X.A) (hb : Binds X.K fd ps ds) (hd : Vals dvs ds) (hx : Passes CX X E)
    (ht : eval (.Call (.Attribute o m apos) [] [] pos) X.env = (do
      let ov ← eval o X.env
      standAt apos.atName
      let (f, first) ← holding [ov] (getMethod ov m pl)
      callWith pos f first (backTo pos (starEach [] X.env)) (backToKw pos (keywordEach [] X.env))) := by rfl) :
    PE X (.Call (.Attribute o m apos) [] [] pos) (tMeth C m sp dvs E ta tNil) := by
  intro pins s σ H Q I h
  refine PySem.W.methodCall_KW (pl := pl) (thn (he pins s σ H _ I h) fun u s1 ⟨x, H1, I1, rx, a, dx, fs, ex, ea, l, q⟩ => ?_) ht
  subst ex
  obtain rfl : u = Value.ref a := rx
  refine getmeth_ok I1 ea c hm l ?_
  exact PySem.W.callWith_K0 (first := [.ref a]) I1.kIn hm.kp (run_fn (us := [.ref a]) (vs := [.ref a]) F hr hb hd hx I1 (.cons rfl .nil) q)

/-- what a class must have to be made -/
structure Mk (K : PySem.W.Frag) (C f : Addr) : Prop where
  makes : PySem.W.makesIn K C = true
  init : PySem.W.findIn K (.ref C) "__init__" = some (some (.ref f))
  fn : PySem.W.isFn K (.ref f) = true
  kp : PySem.W.keepIn K (.ref C) = true

theorem run_make {pins : List (Addr × Obj)} {σ : St} {H : Hp} {s : Shared} {Q : VK} {us : List Value} {vs : List V} (M : Mk X.K C f) (F : FnOk X.prog X.w X.K X.mg X.base CX k f fd ps sp) (hr : Room (k + 1) X.A) (hb : Binds X.K fd ps ds) (hd : Vals dvs ds)
    (hx : Passes CX X E) (I : Inv X pins σ H s) (r : Vals vs us)
    (h : ∀ x dx, H x = none → H dx = none → dx ≠ x → sp (.ref x :: (vs ++ dvs)) (upd (upd H dx (.own x)) x (.ins C dx [])) (fun v H2 => v = .non ∧ Q (.ref x) H2) E) :
    wpAny (model X.prog X.w) X.A (call (.ref C) us) (EP X pins σ Q) X.xe s := by
  have hq := h (s.heap.objs.size + 1) s.heap.objs.size (I.hok.fresh (Nat.le_succ _)) (I.hok.fresh (Nat.le_refl _)) (Nat.ne_of_lt (Nat.lt_succ_self _))
  have I2 := Inv.made (C := C) I
  have r2 : Vals (V.ref (s.heap.objs.size + 1) :: (vs ++ dvs)) (Value.ref (s.heap.objs.size + 1) :: (us ++ ds)) := .cons rfl (r.append hd)
  have hl : (Value.ref (s.heap.objs.size + 1) :: us ++ ds).length = ps.length := by
    have e := r2.length
    rw [F.len _ _ _ _ hq] at e
    exact e.symm
  refine wpAny_call (make_map (f := f) I.kIn M.makes M.init (beq_iff_eq.mp M.fn) (codeAny_mono (F.run _ X.stack _ _ ⟨Value.ref (s.heap.objs.size + 1) :: us, []⟩ (Value.ref (s.heap.objs.size + 1) :: (us ++ ds)) _ _ E (hr.make C us [])
    (I2.env0.make C us []) (hb _ (Value.ref (s.heap.objs.size + 1) :: us) I2.kIn hl) r2 hq) fun r s' hq' => ?_))
  cases r with
  | error e => exact hx pins σ _ _ e s' I2 hq'
  | ok fl =>
    cases fl with
    | ret u =>
      obtain ⟨v, H', I3, rv, ev, q3⟩ := I2.after hq'
      subst ev
      exact ⟨rv, ⟨V.ref (s.heap.objs.size + 1), H', I3, rfl, q3⟩⟩
    | next => exact False.elim hq'
    | brk => exact False.elim hq'
    | cont => exact False.elim hq'
theorem pe_make (M : Mk X.K C f) (F : FnOk X.prog X.w X.K X.mg X.base CX k f fd ps sp) (hr : Room (k + 1) X.A) (hg : Gl X x) (hm : X.mg x = some (.ref C)) (hb : Binds X.K fd ps ds) (hd : Vals dvs ds) (hx : Passes CX X E)
    (ha : PA X (e :: es) t) (hdb : (x == ("__debug__" : Str)) = false := by decide) (he : starEach (e :: es) X.env = (false, eval e X.env) :: starEach es X.env := by rfl) (hpl : (backTo pos (starEach es X.env)).any (·.1) = false := by rfl) :
    PE X (.Call (.Name x p) (e :: es) [] pos) (tMake C sp dvs E t) := by
  intro pins s σ H Q I h
  refine wpAny_Call_Name_kw (ld_glob I hg hm ?_ hdb)
  refine PySem.W.callWith_K (h₀ := X.base) I.ok.mod.kin M.kp (thn (ha pos pins s σ H _ I h) fun us s1 ⟨vs, H1, I1, r, q⟩ => ⟨I1.kIn, ?_⟩) he hpl
  exact run_make M F hr hb hd hx I1 r q
end

/-! ### keywords -/
section
variable {X : Cx} {CX : CXT} {k : Nat} {f C : Addr} {fd : FuncData} {ps ks : List Str} {sp : Sp} {E : XK} {x m : Str} {p pos apos kpos : Pos} {e o : Expr} {es : List Expr} {kws : List Keyword} {te ta : TE} {t tk : TA} {nm : Option Str}

/-- how a call with keywords binds: g puts the positional values us and the keywords' values ws (names ks) in the parameters' order, defaults among them -/
structure KBinds (K : PySem.W.Frag) (fd : FuncData) (ps ks : List Str) (g : List Value → List Value → List Value) (gV : List V → List V → List V) : Prop where
  to : ∀ (s : Shared) (us ws : List Value), K.In s.heap → (g us ws).length = ps.length → BindsTo s fd ⟨us, ks.zip ws⟩ (ps.zip (g us ws))
  rel : ∀ {vs : List V} {us : List Value} {zs : List V} {ws : List Value}, Vals vs us → Vals zs ws → Vals (gV vs zs) (g us ws)
variable {g : List Value → List Value → List Value} {gV : List V → List V → List V}
end

/-! ### a def's body keeps its promise -/
/-- names: the parameters first -/
structure FnScope (N P : List Str) (sc : Scope) : Prop where
  kind : sc.kind = .function
  co : sc.isCoroutine = false
  gen : sc.isGenerator = false
  nd : N.Nodup
  pre : N.take P.length = P
  par : ∀ x ∈ P, sc.names.lookup x = some .local ∨ sc.names.lookup x = some .cell
  nofree : ∀ y ∈ sc.names, y.2 ≠ .free

theorem bindL_out {kindOf : Str → Option NameKind} {x : Str} : ∀ {binds : List (Str × Value)} {m : Str → Option Value}, (∀ v, (x, v) ∉ binds) → bindL kindOf binds m x = m x
  | [], _, _ => rfl
  | (n, v) :: r, m, h => by
    unfold bindL
    rw [bindL_out fun w hw => h w (List.mem_cons_of_mem _ hw)]
    split
    · have : x ≠ n := by rintro rfl; exact h v List.mem_cons_self
      simp [this]
    · rfl
theorem bindC_out {kindOf : Str → Option NameKind} {x : Str} : ∀ {binds : List (Str × Value)} {m : Str → Option Value}, (∀ v, (x, v) ∉ binds) → bindC kindOf binds m x = m x
  | [], _, _ => rfl
  | (n, v) :: r, m, h => by
    unfold bindC
    rw [bindC_out fun w hw => h w (List.mem_cons_of_mem _ hw)]
    split
    · rfl
    · have : x ≠ n := by rintro rfl; exact h v List.mem_cons_self
      simp [this]
theorem bindL_get {kindOf : Str → Option NameKind} {x : Str} {v : Value} : ∀ {P : List Str} {vs : List Value} {i : Nat} {m : Str → Option Value}, P.Nodup → P[i]? = some x → vs[i]? = some v → kindOf x = some .local →
    bindL kindOf (P.zip vs) m x = some v
  | [], _, _, _, _, h, _, _ => by simp at h
  | _ :: _, [], _, _, _, _, h, _ => by simp at h
  | p :: P, w :: vs, 0, m, nd, h1, h2, hk => by
    simp at h1 h2; subst h1; subst h2
    show bindL kindOf ((p, w) :: P.zip vs) m p = _
    unfold bindL
    rw [bindL_out fun v hv => (List.nodup_cons.mp nd).1 (List.of_mem_zip hv).1, if_pos hk]
    simp
  | p :: P, w :: vs, i + 1, m, nd, h1, h2, hk => by
    show bindL kindOf ((p, w) :: P.zip vs) m x = _
    unfold bindL
    exact bindL_get (i := i) (List.nodup_cons.mp nd).2 (by simpa using h1) (by simpa using h2) hk
theorem bindC_get {kindOf : Str → Option NameKind} {x : Str} {v : Value} : ∀ {P : List Str} {vs : List Value} {i : Nat} {m : Str → Option Value}, P.Nodup → P[i]? = some x → vs[i]? = some v → kindOf x ≠ some .local →
    bindC kindOf (P.zip vs) m x = some v
  | [], _, _, _, _, h, _, _ => by simp at h
  | _ :: _, [], _, _, _, _, h, _ => by simp at h
  | p :: P, w :: vs, 0, m, nd, h1, h2, hk => by
    simp at h1 h2; subst h1; subst h2
    show bindC kindOf ((p, w) :: P.zip vs) m p = _
    unfold bindC
    rw [bindC_out fun v hv => (List.nodup_cons.mp nd).1 (List.of_mem_zip hv).1, if_neg hk]
    simp
  | p :: P, w :: vs, i + 1, m, nd, h1, h2, hk => by
    show bindC kindOf ((p, w) :: P.zip vs) m x = _
    unfold bindC
    exact bindC_get (i := i) (List.nodup_cons.mp nd).2 (by simpa using h1) (by simpa using h2) hk

/-- the names' values at the entry -/
def start (N : List Str) (vs : List V) : St := vs.map some ++ List.replicate (N.length - vs.length) none

/-- the context of a def's body, at its entry; an exception leaves the frame, then lies as CX says -/
def cxOf (CX : CXT) (P : Program) (w : World) (K : PySem.W.Frag) (mg : Str → Option Value) (base : Heap) (N : List Str) (qual : Str) (scope : Scope) (f : Addr) (cd : Value) (A : Around) (outer : List Env) (s : Shared) (H : Hp) (E : XK) : Cx where
  prog := P
  w := w
  K := K
  mg := mg
  base := base
  A := A.deeper (envOfC qual scope s.heap.objs.size f cd)
  N := N
  s₀ := s
  H₀ := H
  env := envOfC qual scope s.heap.objs.size f cd
  outer := outer
  stack := envOfC qual scope s.heap.objs.size f cd :: outer
  ex := []
  calm := true
  fn := fun _ => true
  pn := []
  xe := fun e s' => wpAny (model P w) (A.deeper (envOfC qual scope s.heap.objs.size f cd)) (leaving (envOfC qual scope s.heap.objs.size f cd) e) (fun _ s'' => CX outer H s E e s'') (fun e' s'' => CX outer H s E e' s'') s'

theorem cell_has {sc : Scope} {n : Nat} {x : Str} (h : sc.names.lookup x = some .cell) : ∃ c, (cellsFrom n sc.names []).lookup x = some c := by
  have q := PySem.W.cellsFrom_some sc.names n [] (.inl h)
  exact Option.isSome_iff_exists.mp q

theorem inv_start {CX : CXT} {P : Program} {w : World} {K : PySem.W.Frag} {mg : Str → Option Value} {base : Heap} {N ps : List Str} {qual : Str} {scope : Scope} {f : Addr} {cd : Value} {A : Around} {outer : List Env} {s s1 : Shared} {H : Hp} {E : XK} {us : List Value} {vs : List V}
    (S : FnScope N ps scope) (hd : A.handled = none) (e0 : Env0 P w K mg base A outer s H) (hl : vs.length = ps.length) (r : Vals vs us)
    (x : InCallC s s.heap.objs.size (bindL (envOfC qual scope s.heap.objs.size f cd).kindOf (ps.zip us) fun _ => none) (cellsFrom (s.heap.objs.size + 1) scope.names []) (bindC (envOfC qual scope s.heap.objs.size f cd).kindOf (ps.zip us) fun _ => none) s1) :
    Inv (cxOf CX P w K mg base N qual scope f cd A outer s H E) [] (start N vs) H s1 := by
  have hpl : ps.length ≤ N.length := by have := congrArg List.length S.pre; rw [List.length_take] at this; omega
  obtain ⟨h1, tk, rfl, hk⟩ := x.done
  have noA : ∀ b : Addr, b ∉ (cxOf CX P w K mg base N qual scope f cd A outer s H E).ex := fun b z => absurd (show b ∈ ([] : List Addr) from z) (by simp)
  refine ⟨⟨e0.mod, S.kind, rfl, rfl, Nat.le_refl _, fun y z c h1 h2 => ?_, fun y hy => ?_, fun y c _ h => ?_, fun _ => hd, Around.frames_deeper e0.frames, .inr ⟨rfl, rfl⟩, fun b z => absurd z (noA b), e0.bs, e0.bsz, fun b _ _ => noA b, fun b z => absurd z (noA b), e0.funs, e0.frf⟩,
    rfl, e0.bare, Un.kept hk, ⟨_, x.toInCall.ns, fun i y v h1 h2 h3 => ?_⟩, fun y c h => ⟨_, x.cell y c h⟩, e0.hok.fresh (Nat.le_refl _), fun y c h => ?_, fun p hp => absurd (show p ∈ ([] : List (Addr × Obj)) from hp) (by simp), e0.hok.kept hk, ?_⟩
  · exact name_of_addr x.apart (PySem.mem_of_lookup h1) (PySem.mem_of_lookup h2)
  · have hy : scope.names.lookup y = some .cell ∨ scope.names.lookup y = some .free := hy
    rcases hy with hy | hy
    · exact cell_has hy
    · exact absurd rfl (S.nofree _ (PySem.mem_of_lookup hy))
  · exact Nat.le_of_lt (x.above y c (PySem.mem_of_lookup h))
  · have hi : i < vs.length := by
      unfold start at h2
      by_cases hi : i < vs.length
      · exact hi
      · rw [List.getElem?_append_right (by simpa using hi)] at h2
        rw [List.getElem?_replicate] at h2
        split at h2 <;> cases h2
    have ha : vs[i]? = some v := by
      unfold start at h2
      rw [List.getElem?_append_left (by simpa using hi), List.getElem?_map] at h2
      cases e : vs[i]? with
      | none => rw [e] at h2; cases h2
      | some a => rw [e] at h2; cases h2; rfl
    obtain ⟨u, hu, rv⟩ := r.get ha
    have hp : ps[i]? = some y := by
      rw [← S.pre, List.getElem?_take_of_lt (by omega)]; exact h1
    have ndP : ps.Nodup := by rw [← S.pre]; exact S.nd.sublist (List.take_sublist _ _)
    refine ⟨u, rv, ?_⟩
    rcases S.par y (List.mem_of_getElem? hp) with k | k
    · exact .inl ⟨k, bindL_get ndP hp hu k⟩
    · obtain ⟨c, e⟩ := cell_has (n := s.heap.objs.size + 1) k
      refine .inr ⟨.inl k, c, e, ?_⟩
      have q := x.cell y c e
      rw [bindC_get ndP hp hu (by show scope.names.lookup y ≠ _; rw [k]; decide)] at q
      exact q
  · exact e0.hok.fresh (Nat.le_of_lt (x.above y c (PySem.mem_of_lookup h)))
  · unfold start
    show _ = N.length
    rw [List.length_append, List.length_map, List.length_replicate]
    omega

/-- THE RULE: a def (or a method) of the text, by its body. The body's reading t is chosen for each entry; it is run at the parameters' values -/
theorem fn_of {CX : CXT} {P : Program} {w : World} {K : PySem.W.Frag} {mg : Str → Option Value} {base : Heap} {k : Nat} {f : Addr} {name qual : Str} {params : Arguments} {body : List Stmt} {scope : Scope} {dV kV doc pm cdv ct oc : Value} {an od : Option Addr}
    {osl : Array (Option Value)} {N ps : List Str} {sp : Sp} (lk : K.lookup f = some ⟨oc, od, .func (PySem.W.fnOf name qual params body scope dV kV doc pm an cdv ct), osl⟩) (hcd : PySem.W.codeIn K cdv qual = true) (S : FnScope N ps scope)
    (len : ∀ vs H Q E, sp vs H Q E → vs.length = ps.length)
    (hbody : ∀ (A : Around) (outer : List Env) (s : Shared) (H : Hp) (vs : List V) (Q : VK) (E : XK), Room k (A.deeper (envOfC qual scope s.heap.objs.size f cdv)) → sp vs H Q E →
      ∃ t, PSs (cxOf CX P w K mg base N qual scope f cdv A outer s H E) body t ∧ t { nx := fun _ H' => Q .non H', rt := Q } (start N vs) H) :
    FnOk P w K mg base CX (k + 1) f (PySem.W.fnOf name qual params body scope dV kV doc pm an cdv ct) ps sp := by
  refine ⟨len, fun A outer s H args us vs Q E hr e0 hb r hsp => ?_⟩
  have hl := len _ _ _ _ hsp
  have KX : K.In s.heap := e0.mod.kin.keeps fun b o e => (e0.bs b o e).1
  have lim : s.heap.NoLimit := e0.mod.nolimit.keeps fun b o e => (e0.bs b o e).1
  have hkind : ∀ y ∈ ps.zip us, scope.names.lookup y.1 = some .local ∨ (scope.names.lookup y.1 = some .cell ∧ ((cellsFrom (s.heap.objs.size + 1) scope.names []).lookup y.1).isSome = true) := fun ⟨n, v⟩ hy => by
    rcases S.par n (List.of_mem_zip hy).1 with q | q
    · exact .inl q
    · exact .inr ⟨q, PySem.W.cellsFrom_some _ _ _ (.inl q)⟩
  refine codeAny_call_function hr.depth (KX _ _ lk) rfl S.co S.gen rfl (PySem.W.codeRec_of KX hcd) (hb _ _ _ _ ?_)
  refine wpAny_newFunctionEnv_cells S.kind hkind fun env he s1 x => ?_
  subst he
  refine ⟨lim.keeps x.toInCall.keep, codeAny_func ?_⟩
  obtain ⟨t, ht, hq⟩ := hbody A outer s H vs Q E (hr.deeper _) hsp
  have I : Inv (cxOf CX P w K mg base N qual scope f cdv A outer s H E) [] (start N vs) H s1 := inv_start S hr.hd e0 hl r x
  refine wpAny_mono (ht [] s1 (start N vs) H _ I hq) (fun fl s' hs => ?_) fun e s' hs => hs
  have fin : ∀ {σ' : St} {H' : Hp} {v : V} {u : Value}, Inv (cxOf CX P w K mg base N qual scope f cdv A outer s H E) [] σ' H' s' → RelV v u → Q v H' → CE outer P w H s Q u s' :=
    fun {σ' H' v u} J rv q => ⟨v, H', J.os, J.bare, J.base, J.hok, rv, q⟩
  cases fl with
  | ret u =>
    obtain ⟨v, σ', H', J, rv, q⟩ := hs
    exact fin J rv q
  | next =>
    obtain ⟨σ', H', J, q⟩ := hs
    exact fin (v := V.non) (u := Value.none) J rfl q
  | brk =>
    obtain ⟨_, _, _, q⟩ := hs
    exact False.elim q
  | cont =>
    obtain ⟨_, _, _, q⟩ := hs
    exact False.elim q
end L2

namespace L2
open PySem PySem.Spec PyProof.Rows
section
variable {X : Cx} {x : Str} {p pos : Pos} {e : Expr} {es : List Expr} {t : TA} {id T : String} {r : List V → Hp → VK → Prop}

def tCB (r : List V → Hp → VK → Prop) (t : TA) : TE := fun σ H Q => t σ H fun vs H1 => r vs H1 Q
/-- f(e, ..), f a built-in function -/
theorem pe_callB (hc : CallR X (.builtin id) r) (hg : Gl X x) (hm : X.mg x = none) (hv : bootBuiltins x = some (.builtin id)) (ha : PA X (e :: es) t) (hn : x ≠ "__name__" := by decide) (hdb : (x == ("__debug__" : Str)) = false := by decide)
    (he : starEach (e :: es) X.env = (false, eval e X.env) :: starEach es X.env := by rfl) (hpl : (backTo pos (starEach es X.env)).any (·.1) = false := by rfl) : PE X (.Call (.Name x p) (e :: es) [] pos) (tCB r t) := by
  intro pins s σ H Q I h
  refine wpAny_Call_Name_kw (ld_blt I hg hm hv ?_ hn hdb)
  exact PyProof.Rows.callWith_builtin1 (thn (ha pos pins s σ H _ I h) fun us s1 ⟨vs, H1, I1, r1, q1⟩ => hc pins s1 σ H1 vs us Q I1 r1 q1) he hpl
/-- T(e, ..), T a built-in type -/
theorem pe_callTy (hc : CallR X (.type T) r) (hg : Gl X x) (hm : X.mg x = none) (hv : bootBuiltins x = some (.type T)) (ha : PA X (e :: es) t) (hn : x ≠ "__name__" := by decide) (hdb : (x == ("__debug__" : Str)) = false := by decide)
    (he : starEach (e :: es) X.env = (false, eval e X.env) :: starEach es X.env := by rfl) (hpl : (backTo pos (starEach es X.env)).any (·.1) = false := by rfl) : PE X (.Call (.Name x p) (e :: es) [] pos) (tCB r t) := by
  intro pins s σ H Q I h
  refine wpAny_Call_Name_kw (ld_blt I hg hm hv ?_ hn hdb)
  exact PyProof.Rows.callWith_type1 (thn (ha pos pins s σ H _ I h) fun us s1 ⟨vs, H1, I1, r1, q1⟩ => hc pins s1 σ H1 vs us Q I1 r1 q1) he hpl
end
end L2

namespace HT
open PySem PyProof.Rows



section
open PySem.SeqAt
open PySem.AutoSeq1 (wpAny_loadPart')
open PySem.MeetsSeq PySem.MeetsSeq2 PySem.MeetsSeq3

end

section
variable {prog : Program} {w : World} {A : Around} {E : Value → Shared → Prop} {s : Shared}



/-! ### t[a:b], not the whole -/
/-- a slice's bound as a place among n (d where it is left out) -/
def sIx (n d : Nat) : Option Int → Nat
  | none => d
  | some v => if v < 0 then (v + (n : Int)).toNat else min v.toNat n
theorem sIx_none (n d : Nat) : sIx n d none = d := rfl
theorem sIx_nat (n d k : Nat) : sIx n d (some (k : Int)) = min k n := by
  show (if (k : Int) < 0 then ((k : Int) + (n : Int)).toNat else min (k : Int).toNat n) = min k n
  rw [if_neg (by omega), Int.toNat_natCast]

end
end HT

namespace L2
open PySem PySem.Spec PyProof.Rows

/-! ### the parts of a slice -/
abbrev TO := St → Hp → (Option Int → Hp → Prop) → Prop
/-- a slice's part (left out, or an int) -/
def PO (X : Cx) (e : Option Expr) (t : TO) : Prop :=
  ∀ (pins : List (Addr × Obj)) (s : Shared) (σ : St) (H : Hp) (Q : Option Int → Hp → Prop), Inv X pins σ H s → t σ H Q →
    wpAny (model X.prog X.w) X.A (evalPart e X.env) (fun u s' => ∃ o H', Inv X pins σ H' s' ∧ IsPart u o ∧ Q o H') X.xe s
def tNoPart : TO := fun _ H Q => Q none H
def tPart (t : TE) : TO := fun σ H Q => t σ H fun x H1 => ∃ i, x = .int i ∧ Q (some i) H1

theorem intsAre_of {ns : List Int} : ∀ {us : List Value}, Vals (ns.map V.int) us → IntsAre us ns := by
  induction ns with
  | nil => intro us r; rw [List.map_nil] at r; cases r; exact .nil
  | cons n ns ih =>
    intro us r
    rw [List.map_cons] at r
    cases r with
    | cons r1 r2 =>
      obtain ⟨t, e⟩ := r1
      subst e
      exact .cons n t (ih r2)

section
variable {X : Cx} {e : Expr} {te : TE} {lo hi : Option Expr} {tl th : TO} {pos p2 : Pos}

theorem po_none : PO X none tNoPart := by
  intro pins s σ H Q I h
  rw [evalPart_none]
  exact wpAny_pure ⟨none, H, I, .none, h⟩
theorem po_some (h : PE X e te) : PO X (some e) (tPart te) := by
  intro pins s σ H Q I hw
  rw [evalPart_some]
  refine thn (h pins s σ H _ I hw) fun u s1 ⟨x, H1, I1, r1, q1⟩ => ?_
  obtain ⟨i, rfl, q⟩ := q1
  obtain ⟨t, rfl⟩ := r1
  exact ⟨some i, H1, I1, .int i t, q⟩

/-- what a slice of a value is, by values: the slice object stands at sl -/
def SlR (X : Cx) (r : V → Option Int → Option Int → Hp → VK → Prop) : Prop :=
  ∀ (pins : List (Addr × Obj)) (s : Shared) (σ : St) (H : Hp) (x : V) (v vl vu : Value) (lo hi : Option Int) (sl : Addr) (Q : VK), Inv X pins σ H s → RelV x v → s.heap.IsSliceOf sl vl vu .none → IsPart vl lo → IsPart vu hi → r x lo hi H Q →
    ∃ T id, typeLookup (.type T) "__getitem__" = pure (some (.builtin id)) ∧ s.TypeIs v T ∧ wpAny (model X.prog X.w) X.A (getItem v (.ref sl)) (EP X pins σ Q) X.xe s
def tSl (r : V → Option Int → Option Int → Hp → VK → Prop) (te : TE) (tl th : TO) : TE := fun σ H Q => te σ H fun x H1 => tl σ H1 fun l H2 => th σ H2 fun u H3 => r x l u H3 Q
/-- a[lo:hi], any a -/
theorem pe_slice {r : V → Option Int → Option Int → Hp → VK → Prop} (hr : SlR X r) (he : PE X e te) (hl : PO X lo tl) (hu : PO X hi th) : PE X (.Subscript e (.Slice lo hi none p2) pos) (tSl r te tl th) := by
  intro pins s σ H Q I h
  refine Subscript_ (thn (he pins s σ H _ I h) fun v s1 ⟨x, H1, I1, r1, q1⟩ => ?_)
  refine wpAny_Slice (thn (hl pins s1 σ H1 _ I1 q1) fun vl s2 ⟨l, H2, I2, pl, q2⟩ => thn (hu pins s2 σ H2 _ I2 q2) fun vu s3 ⟨u, H3, I3, pu, q3⟩ => ?_)
  rw [evalPart_none]
  refine wpAny_pure ?_
  have I4 : Inv X pins σ H3 { s3 with heap := s3.heap.push { cls := .type "slice", data := .fields #[vl, vu, .none] } } := I3.kept (t' := s3.toks) fun b ob q => Heap.get?_push_of_some _ q
  obtain ⟨T, id, hT, ht, hg⟩ := hr pins { s3 with heap := s3.heap.push { cls := .type "slice", data := .fields #[vl, vu, .none] } } σ H3 x v vl vu l u s3.heap.objs.size Q I4 r1 (Heap.IsSliceOf.new ..) pl pu q3
  show wpAny (model X.prog X.w) X.A (subscriptTail e (.Slice lo hi none p2) v (.ref s3.heap.objs.size)) (EP X pins σ Q) X.xe { s3 with heap := s3.heap.push { cls := .type "slice", data := .fields #[vl, vu, .none] } }
  exact tail_any (ops := [.ref s3.heap.objs.size, v]) ht hT hg (by with_unfolding_all rfl)

/-- the items of xs[lo:hi] -/
def cutV (xs : List V) (lo hi : Option Int) : List V := (xs.drop (HT.sIx xs.length 0 lo)).take (HT.sIx xs.length xs.length hi - HT.sIx xs.length 0 lo)
theorem cutV_length (xs : List V) (lo hi : Option Int) : (cutV xs lo hi).length ≤ xs.length := by
  unfold cutV
  rw [List.length_take, List.length_drop]
  omega

/-! ### t < u, t + u -/
end
end L2

namespace L2
open PySem PySem.Spec PyProof.Rows

/-! ### places -/
/-- the place that an index of any sign means -/
def ixN (n : Nat) (i : Int) : Option Nat := if 0 ≤ i then (if i < n then some i.toNat else none) else if -(n : Int) ≤ i then some (i + n).toNat else none
def atI {α : Type} (xs : List α) (i : Int) : Option α := (ixN xs.length i).bind fun j => xs[j]?
theorem ixN_seq {n : Nat} {i : Int} {j : Nat} (h : ixN n i = some j) : seqIndex? i n = some j ∧ j < n ∧ -(n : Int) ≤ i ∧ i < n := by
  unfold ixN at h
  by_cases h0 : 0 ≤ i
  · rw [if_pos h0] at h
    by_cases h1 : i < n
    · rw [if_pos h1] at h
      have e : i.toNat = j := Option.some.inj h
      exact ⟨by rw [seqIndex_of h0 h1, e], by omega, by omega, h1⟩
    · rw [if_neg h1] at h; cases h
  · rw [if_neg h0] at h
    by_cases h1 : -(n : Int) ≤ i
    · rw [if_pos h1] at h
      have e : (i + n).toNat = j := Option.some.inj h
      exact ⟨by rw [seqIndex_neg (by omega) h1, e], by omega, h1, by omega⟩
    · rw [if_neg h1] at h; cases h
theorem atI_get {α : Type} {xs : List α} {i : Int} {v : α} (h : atI xs i = some v) : ∃ j, seqIndex? i xs.length = some j ∧ xs[j]? = some v ∧ j < xs.length ∧ -(xs.length : Int) ≤ i ∧ i < xs.length := by
  unfold atI at h
  cases e : ixN xs.length i with
  | none => rw [e] at h; cases h
  | some j =>
    rw [e] at h
    obtain ⟨h1, h2, h3, h4⟩ := ixN_seq e
    exact ⟨j, h1, h, h2, h3, h4⟩
theorem atI_nat {α : Type} {xs : List α} {j : Nat} {v : α} (h : xs[j]? = some v) : atI xs (j : Int) = some v := by
  have hj : j < xs.length := (List.getElem?_eq_some_iff.mp h).1
  have e : ixN xs.length (j : Int) = some j := by
    unfold ixN
    rw [if_pos (by omega), if_pos (by omega)]; simp
  unfold atI; rw [e]; exact h

/-! ### what may be subscripted -/
/-- what stands as an index of a plain subscript -/
def PlainIx (b : Expr) : Prop := ∀ o i, subscripted b false o i = operate [o, i] (getItem o i)
/-- a subscript by values -/
def IxR (X : Cx) (r : R2) : Prop :=
  ∀ (value slice : Expr) (pins : List (Addr × Obj)) (s : Shared) (σ : St) (H : Hp) (x y : V) (v u : Value) (Q : VK), Inv X pins σ H s → RelV x v → RelV y u → r x y H Q →
    subscripted slice false v u = operate [v, u] (getItem v u) → wpAny (model X.prog X.w) X.A (subscriptTail value slice v u) (EP X pins σ Q) X.xe s
/-- a call of a builtin's method by values: the receiver, the arguments -/
def MtR (X : Cx) (id : String) (r : V → List V → Hp → VK → Prop) : Prop :=
  ∀ (pins : List (Addr × Obj)) (s : Shared) (σ : St) (H : Hp) (x : V) (xs : List V) (v : Value) (us : List Value) (Q : VK), Inv X pins σ H s → RelV x v → Vals xs us → r x xs H Q →
    wpAny (model X.prog X.w) X.A (call (.builtin id) (v :: us)) (EP X pins σ Q) X.xe s
section
variable {X : Cx} {a b : Expr} {ta tb : TE} {pos : Pos}
/-- a[b] -/
theorem pe_ix {r : R2} (hr : IxR X r) (ha : PE X a ta) (hb : PE X b tb) (hs : PlainIx b) : PE X (.Subscript a b pos) (tOp r ta tb) := by
  intro pins s σ H Q I h
  exact Subscript_ (binT ha hb I h fun v u s2 x y H2 I2 rx ry q => hr a b pins s2 σ H2 x y v u Q I2 rx ry q (hs _ _))

def rIxL (K : PySem.W.Frag) : R2 := fun x y H Q => ∃ p xs i v, x = .ref p ∧ y = .int i ∧ SqL K H p xs ∧ atI xs i = some v ∧ Q v H
def rIxT (K : PySem.W.Frag) : R2 := fun x y H Q => ∃ p xs i v, x = .ref p ∧ y = .int i ∧ SqT K H p xs ∧ atI xs i = some v ∧ Q v H
def rIxS : R2 := fun x y H Q => ∃ z i c, x = .str z ∧ y = .int i ∧ z.length ≤ sizeLine ∧ atI z.cps.toList i = some c ∧ Q (.str ⟨#[c]⟩) H
theorem ix_list : IxR X (rIxL X.K) := by
  intro value slice pins s σ H x y v u Q I rx ry h hs
  obtain ⟨p, xs, i, z, rfl, rfl, hq, he, q⟩ := h
  cases rx
  obtain ⟨t, rfl⟩ := ry
  obtain ⟨its, r, pl, hz⟩ := I.list hq
  obtain ⟨j, h1, h2, h3, h4, h5⟩ := atI_get he
  obtain ⟨w, ew, rw'⟩ := r.get h2
  have hl := r.length
  have hn := line63
  have fin : EP X pins σ Q w s := ⟨z, H, I, rw', q⟩
  by_cases h0 : 0 ≤ i
  · have hj : i.toNat = j := by
      rw [seqIndex_of h0 h5] at h1
      exact Option.some.inj h1
    exact item_listR pl.isList h0 (by omega) (by rw [hj]; simpa using ew) fin hs
  · have hj : (i + (its.toArray.size : Int)).toNat = j := by
      rw [seqIndex_neg (by omega) h4] at h1
      rw [List.size_toArray, ← hl]
      exact Option.some.inj h1
    exact subscriptTail_builtinR (x := w) pl.isList.typeIs slot_list_getitem.lookup
      (wpAny_getItem_list_neg (Q := fun r s' => r = w ∧ EP X pins σ Q r s') pl.isList (by omega) (by rw [List.size_toArray] <;> omega) (by omega) (by rw [hj]; simpa using ew) ⟨rfl, fin⟩) hs
theorem ix_tup : IxR X (rIxT X.K) := by
  intro value slice pins s σ H x y v u Q I rx ry h hs
  obtain ⟨p, xs, i, z, rfl, rfl, hq, he, q⟩ := h
  cases rx
  obtain ⟨t, rfl⟩ := ry
  obtain ⟨its, r, pl, hz⟩ := I.tuple hq
  obtain ⟨j, h1, h2, h3, h4, h5⟩ := atI_get he
  obtain ⟨w, ew, rw'⟩ := r.get h2
  have hl := r.length
  have hn := line63
  have fin : EP X pins σ Q w s := ⟨z, H, I, rw', q⟩
  exact subscriptTail_builtinR (x := w) pl.typeIs slot_tuple_getitem.lookup
    (getItem_tuple (j := j) (Q := fun r s' => r = w ∧ EP X pins σ Q r s') pl (by omega) (by omega) (by rw [List.size_toArray, ← hl]; exact h1) (by simpa using ew) ⟨rfl, fin⟩) hs
theorem ix_str : IxR X rIxS := by
  intro value slice pins s σ H x y v u Q I rx ry h hs
  obtain ⟨z, i, c, rfl, rfl, hz, he, q⟩ := h
  obtain ⟨t, rfl⟩ := rx
  obtain ⟨t', rfl⟩ := ry
  obtain ⟨j, h1, h2, h3, h4, h5⟩ := atI_get he
  have hl : z.cps.toList.length = z.length := by simp [Str.length]
  rw [hl] at h1 h4 h5
  have hn := line63
  exact tail_any (typeIs_str s z t) slot_str_getitem.lookup (getItem_str (c := c) (by
    have e1 : decide (i < -(2 ^ 63 : Int)) = false := decide_eq_false (by omega)
    have e2 : decide (i ≥ 2 ^ 63) = false := decide_eq_false (by omega)
    rw [e1, e2, Bool.or_false]) (by rw [h1]; simpa using h2) ⟨.str ⟨#[c]⟩, H, I.tok _, ⟨_, rfl⟩, q⟩) hs

/-! ### xs[i] = v, any sign -/

/-! ### slices -/
theorem slice_bounds (lo hi : Option Int) (n : Nat) : (sliceBounds lo hi none n).1 = ((HT.sIx n 0 lo : Nat) : Int) ∧ (sliceBounds lo hi none n).2.1 = ((HT.sIx n n hi : Nat) : Int) ∧ (sliceBounds lo hi none n).2.2 = 1 := by
  refine ⟨?_, ?_, rfl⟩
  · cases lo with
    | none => simp [sliceBounds, HT.sIx]
    | some i =>
      simp only [sliceBounds, HT.sIx, Option.getD_none, show (1 : Int) > 0 by decide, if_true]
      by_cases h : i < 0
      · simp only [h, if_true] <;> omega
      · simp only [h, if_false] <;> omega
  · cases hi with
    | none => simp [sliceBounds, HT.sIx]
    | some i =>
      simp only [sliceBounds, HT.sIx, Option.getD_none, show (1 : Int) > 0 by decide, if_true]
      by_cases h : i < 0
      · simp only [h, if_true] <;> omega
      · simp only [h, if_false] <;> omega
theorem slicePick_cut (its : List Value) (lo hi : Option Int) : slicePick its.toArray lo hi none = ((its.drop (HT.sIx its.length 0 lo)).take (HT.sIx its.length its.length hi - HT.sIx its.length 0 lo)).toArray := by
  obtain ⟨h1, h2, h3⟩ := slice_bounds lo hi its.toArray.size
  unfold slicePick
  rw [h1, h2, h3]
  simp only [sliceRange_one, pick_run, List.size_toArray] <;> rfl
/-- xs[lo:hi] of a list: a new list -/
def rSlL (K : PySem.W.Frag) : V → Option Int → Option Int → Hp → VK → Prop := fun x lo hi H Q => ∃ a xs, x = .ref a ∧ SqL K H a xs ∧ ∀ p, H p = none → Q (.ref p) (upd H p (.lst (cutV xs lo hi)))
theorem sl_list : SlR X (rSlL X.K) := by
  intro pins s σ H x v vl vu lo hi sl Q I rx hs pl pu h
  obtain ⟨a, xs, rfl, hx, q⟩ := h
  cases rx
  obtain ⟨its, r, ht, hz⟩ := I.list hx
  have hlen := r.length
  refine ⟨"list", _, slot_list_getitem.lookup, ht.isList.typeIs, ?_⟩
  refine wpAny_getItem_list_slice ht.isList hs pl pu .none (by simp) ?_ (by rw [List.size_toArray] <;> omega)
  rw [slicePick_cut, ← hlen]
  refine ⟨.ref s.heap.objs.size, _, I.laid (t' := s.toks) (o := .lst (cutV xs lo hi)) (fun b ob q => Heap.get?_push_of_some _ q) (Nat.le_refl _) ?_, rfl, q _ (I.hok.fresh (Nat.le_refl _))⟩
  exact ⟨Nat.le_trans (cutV_length xs lo hi) hz, _, 0, (r.drop (HT.sIx xs.length 0 lo)).take (HT.sIx xs.length xs.length hi - HT.sIx xs.length 0 lo), Heap.get?_push_size _ rfl⟩

/-! ### in, not in: flat items -/

/-! ### len, list(x), tuple(x) of any list or tuple that is read -/
theorem call_len_seq : CallR X (.builtin "len") (fun xs H Q => ∃ p ys, xs = [.ref p] ∧ (SqL X.K H p ys ∨ SqT X.K H p ys) ∧ Q (.int ys.length) H) := by
  intro pins s σ H xs us Q I r h
  obtain ⟨p, ys, rfl, hq, q⟩ := h
  obtain ⟨u, rfl, rx⟩ := vals1 r
  cases rx
  have hn := line63
  rcases hq with hq | hq
  · obtain ⟨its, r', pl, hz⟩ := I.list hq
    have hlen := r'.length
    exact Calls.call_len_list pl.isList (by simp only [List.size_toArray] <;> omega) ⟨.int ys.length, H, I.tok _, ⟨s.toks + 1, by rw [List.size_toArray, hlen]⟩, q⟩
  · obtain ⟨its, r', pl, hz⟩ := I.tuple hq
    have hlen := r'.length
    exact len_tuple pl (by simp only [List.size_toArray] <;> omega) ⟨.int ys.length, H, I.tok _, ⟨s.toks + 1, by rw [List.size_toArray, hlen]⟩, q⟩
theorem call_len_str : CallR X (.builtin "len") (fun xs H Q => ∃ z, xs = [.str z] ∧ z.length ≤ sizeLine ∧ Q (.int z.length) H) := by
  intro pins s σ H xs us Q I r h
  obtain ⟨z, rfl, hz, q⟩ := h
  obtain ⟨u, rfl, t, rfl⟩ := vals1 r
  have hn := line63
  exact len_str (by omega) ⟨.int z.length, H, I.tok _, ⟨_, rfl⟩, q⟩
theorem call_list_of : CallR X (.type "list") (fun xs H Q => ∃ p ys, xs = [.ref p] ∧ (SqL X.K H p ys ∨ SqT X.K H p ys) ∧ ∀ l, H l = none → Q (.ref l) (upd H l (.lst ys))) := by
  intro pins s σ H xs us Q I r h
  obtain ⟨p, ys, rfl, hq, q⟩ := h
  obtain ⟨u, rfl, rx⟩ := vals1 r
  cases rx
  have fin : ∀ (its : List Value), Vals ys its → ys.length ≤ sizeLine → ∀ (h' : Heap) (c' : Nat), (∀ b o', s.heap.get? b = some o' → h'.get? b = some o') →
      h'.get? s.heap.objs.size = some { cls := .type "list", dict := none, data := .seq its.toArray c', slots := #[] } → EP X pins σ Q (.ref s.heap.objs.size) { s with heap := h' } := fun its r' hz h' c' kp e =>
    ⟨.ref s.heap.objs.size, _, I.laid (t' := s.toks) kp (Nat.le_refl _) (show ObjOk X.prog X.w _ h' _ (.lst ys) from ⟨hz, its, c', r', e⟩), rfl, q _ (I.hok.fresh (Nat.le_refl _))⟩
  rcases hq with hq | hq
  · obtain ⟨its, r', pl, hz⟩ := I.list hq
    have hlen := r'.length
    obtain ⟨o, ho, hc, n, hd⟩ := pl.isList
    exact call_list_seq p (.inl rfl) ho hc hd (fun h' c' kp e => fin its r' hz h' c' kp e) (by simp only [List.size_toArray] <;> omega)
  · obtain ⟨its, r', pl, hz⟩ := I.tuple hq
    have hlen := r'.length
    obtain ⟨o, ho, hc, n, hd⟩ := pl
    exact call_list_seq p (.inr rfl) ho hc hd (fun h' c' kp e => fin its r' hz h' c' kp e) (by simp only [List.size_toArray] <;> omega)
theorem call_tuple_of : CallR X (.type "tuple") (fun xs H Q => ∃ p ys, xs = [.ref p] ∧ ((SqL X.K H p ys ∧ ∀ l, H l = none → Q (.ref l) (upd H l (.tup ys))) ∨ (SqT X.K H p ys ∧ Q (.ref p) H))) := by
  intro pins s σ H xs us Q I r h
  obtain ⟨p, ys, rfl, h⟩ := h
  obtain ⟨u, rfl, rx⟩ := vals1 r
  cases rx
  rcases h with ⟨hq, q⟩ | ⟨hq, q⟩
  · obtain ⟨its, r', pl, hz⟩ := I.list hq
    have hlen := r'.length
    refine call_tuple_list pl.isList (fun h' kp => ?_) (by simp only [List.size_toArray] <;> omega)
    have I1 : Inv X pins σ H { s with heap := h' } := I.kept (t' := s.toks) kp
    have I2 : Inv X pins σ (upd H h'.objs.size (.tup ys)) { s with heap := h'.push { cls := .type "tuple", data := .seq its.toArray } } :=
      I1.laid (t' := s.toks) (fun b o e => Heap.get?_push_of_some _ e) (Nat.le_refl _) (show ObjOk X.prog X.w _ _ _ (.tup ys) from ⟨hz, its, r', IsTup.new _ _⟩)
    exact ⟨.ref h'.objs.size, _, I2, rfl, q _ (I1.hok.fresh (Nat.le_refl _))⟩
  · obtain ⟨its, r', pl, hz⟩ := I.tuple hq
    exact call_tuple_same pl ⟨.ref p, H, I, rfl, q⟩

/-! ### the call of a builtin's method: o.m(..) -/
/-- the value is of that builtin type -/
def tyV (K : PySem.W.Frag) (T : String) (x : V) (H : Hp) : Prop := match x with
  | .str _ => T = "str"
  | .int _ => T = "int"
  | .ref p => (T = "list" ∧ ∃ xs, SqL K H p xs) ∨ (T = "tuple" ∧ ∃ o, K.lookup p = some o ∧ o.cls = .type "tuple" ∧ o.dict = none) ∨
      (T = "dict" ∧ ((∃ kvs, H p = some (.dK kvs)) ∨ ∃ kvs, H p = some (.dT kvs))) ∨ (T = "set" ∧ ∃ S n, H p = some (.set S n))
  | _ => False
theorem tyV_is {pins : List (Addr × Obj)} {σ : St} {H : Hp} {s : Shared} {T : String} {x : V} {v : Value} (I : Inv X pins σ H s) (r : RelV x v) (ty : tyV X.K T x H) :
    s.TypeIs v T ∧ ∀ a, v = .ref a → ∃ ob, s.heap.get? a = some ob ∧ ob.dict = none := by
  cases x with
  | str z =>
    obtain ⟨t, rfl⟩ := r
    cases (show T = "str" from ty)
    exact ⟨typeIs_str s z t, fun _ e => nomatch e⟩
  | int i =>
    obtain ⟨t, rfl⟩ := r
    cases (show T = "int" from ty)
    exact ⟨typeIs_int s i t, fun _ e => nomatch e⟩
  | ref p =>
    cases r
    rcases ty with ⟨rfl, xs, hq⟩ | ⟨rfl, o, hk, hc, hd⟩ | ⟨rfl, hk⟩ | ⟨rfl, S, n, hk⟩
    · obtain ⟨its, _, pl, _⟩ := I.list hq
      refine ⟨pl.isList.typeIs, fun a e => ?_⟩
      cases e
      obtain ⟨o, n, e, c, hd, _⟩ := pl
      exact ⟨o, e, hd⟩
    · refine ⟨⟨o, I.kIn p o hk, hc⟩, fun a e => ?_⟩
      cases e
      exact ⟨o, I.kIn _ o hk, hd⟩
    · have z : ∃ o, s.heap.get? p = some o ∧ o.ExactDict := by
        rcases hk with ⟨kvs, hk⟩ | ⟨kvs, hk⟩
        · obtain ⟨_, _, _, _, o, _, _, e, ex, _⟩ := I.hok p _ hk
          exact ⟨o, e, ex⟩
        · obtain ⟨_, _, _, _, o, _, _, e, ex, _⟩ := I.hok p _ hk
          exact ⟨o, e, ex⟩
      obtain ⟨o, e, ex⟩ := z
      refine ⟨⟨o, e, ex.1⟩, fun a e2 => ?_⟩
      cases e2
      exact ⟨o, e, ex.2.1⟩
    · obtain ⟨o, _, _, _, e, ex, _⟩ := I.hok p _ hk
      refine ⟨⟨o, e, ex.1⟩, fun a e2 => ?_⟩
      cases e2
      exact ⟨o, e, ex.2.1⟩
  | _ => exact False.elim ty
def tBM0 (K : PySem.W.Frag) (T : String) (r : V → List V → Hp → VK → Prop) (to : TE) : TE := fun σ H Q => to σ H fun x H1 => tyV K T x H1 ∧ r x [] H1 Q
def tBM (K : PySem.W.Frag) (T : String) (r : V → List V → Hp → VK → Prop) (to : TE) (t : TA) : TE := fun σ H Q => to σ H fun x H1 => tyV K T x H1 ∧ t σ H1 fun xs H2 => r x xs H2 Q
variable {o e : Expr} {es : List Expr} {to : TE} {t : TA} {name : Str} {apos cpos : Pos} {T id : String} {r : V → List V → Hp → VK → Prop}
theorem pe_bm0 (pa : PlainAttrs T) (slot : Slot T name id) (hty : typeOf (.builtin id) = pure (.type "method_descriptor")) (hm : MtR X id r) (ho : PE X o to)
    (hbase : attributeBase o name X.env (eval o X.env) = eval o X.env := by rfl) (hline : (apos.endLine == cpos.line) = true := by rfl) : PE X (.Call (.Attribute o name apos) [] [] cpos) (tBM0 X.K T r to) := by
  intro pins s σ H Q I h
  refine wpAny_Call_method0_late hbase hline (thn (ho pins s σ H _ I h) fun v s1 ⟨x, H1, I1, r1, ty, q1⟩ => ?_)
  obtain ⟨h1, h2⟩ := tyV_is I1 r1 ty
  exact ⟨T, id, pa, slot, hty, h1, h2, Calls.callWith_builtin rfl (PySem.evalArgs_none (hm pins s1 σ H1 x [] v [] Q I1 r1 .nil q1))⟩
theorem pe_bm (pa : PlainAttrs T) (slot : Slot T name id) (hty : typeOf (.builtin id) = pure (.type "method_descriptor")) (hm : MtR X id r) (ho : PE X o to) (ha : PA X (e :: es) t)
    (hbase : attributeBase o name X.env (eval o X.env) = eval o X.env := by rfl)
    (hfew : ((backTo cpos (starEach (e :: es) X.env)).all (fun x => !x.1) && (backToKw cpos (keywordEach [] X.env)).all (fun x => x.1.isSome)
      && decide ((e :: es).length + ([] : List Keyword).length + (if ([] : List Keyword).isEmpty then 0 else 1) < 30)) = true := by rfl)
    (hline : (apos.endLine == cpos.line) = true := by rfl) (hs : starEach (e :: es) X.env = (false, eval e X.env) :: starEach es X.env := by rfl) (hplain : (backTo cpos (starEach es X.env)).any (·.1) = false := by rfl) :
    PE X (.Call (.Attribute o name apos) (e :: es) [] cpos) (tBM X.K T r to t) := by
  intro pins s σ H Q I h
  refine wpAny_Call_method_late hbase hfew hline rfl (thn (ho pins s σ H _ I h) fun v s1 ⟨x, H1, I1, r1, ty, q1⟩ => ?_)
  obtain ⟨h1, h2⟩ := tyV_is I1 r1 ty
  refine ⟨T, id, pa, slot, hty, h1, h2, ?_⟩
  have hA := ha cpos pins s1 σ H1 _ I1 q1
  rw [hs] at hA ⊢
  refine Calls.callWith_builtin (by show (false || (backTo cpos (starEach es X.env)).any (·.1)) = false; rw [hplain] <;> rfl) (Calls.evalArgs_plain ?_)
  exact thn hA fun us s2 ⟨vs, H2, I2, r2, q2⟩ => hm pins s2 σ H2 x vs v us Q I2 r1 r2 q2
/- xs.append(e), list.index on a module's tuple .. are MtR facts of 06m -/
end
end L2

namespace L2
open PySem PySem.Spec PyProof.Rows

def MtM (X : Cx) (id : String) (r : V → List V → Hp → VK → Prop) : Prop :=
  ∀ (pins : List (Addr × Obj)) (s : Shared) (σ : St) (H : Hp) (x : V) (xs : List V) (v : Value) (us : List Value) (Q : VK), Inv X pins σ H s → RelV x v → Vals xs us → r x xs H Q →
    wpAny (model X.prog X.w) X.A (call (.builtin id) (v :: us)) (EP X pins σ Q) X.xe s

/-! ### lists of values -/
theorem Vals.one : ∀ {x : V} {us : List Value}, Vals [x] us → ∃ u, us = [u] ∧ RelV x u
  | _, _, .cons r .nil => ⟨_, rfl, r⟩
theorem Vals.zero : ∀ {us : List Value}, Vals [] us → us = []
  | _, .nil => rfl
theorem Vals.dropLast {xs : List V} {us : List Value} (h : Vals xs us) : Vals xs.dropLast us.dropLast := by
  induction h with
  | nil => exact .nil
  | cons r t ih =>
    cases t with
    | nil => exact .nil
    | cons q t' => exact .cons r ih
theorem erase_last {α : Type} (l : List α) : l.eraseIdx (l.length - 1) = l.dropLast := by
  induction l with
  | nil => rfl
  | cons a r ih =>
    cases r with
    | nil => rfl
    | cons b r =>
      have e : (a :: b :: r).length - 1 = ((b :: r).length - 1) + 1 := by
        have h1 : (a :: b :: r).length = r.length + 2 := rfl
        have h2 : (b :: r).length = r.length + 1 := rfl
        omega
      rw [e, List.eraseIdx_cons_succ, ih]
      all_goals rfl

section
variable {X : Cx} {pins : List (Addr × Obj)} {σ : St} {H : Hp} {s : Shared} {l b : Addr} {xs ys zs : List V}

/-! ### the two steps: a tracked list is rewritten, a new list is laid -/
theorem Inv.lset {its its' : List Value} {n : Nat} {f : Array Value → Array Value} {t' : Nat} (I : Inv X pins σ H s) (hH : H l = some (.lst xs))
    (e : s.heap.get? l = some { cls := .type "list", data := .seq its.toArray n }) (hf : f its.toArray = its'.toArray) (hv : Vals ys its') (hz : ys.length ≤ sizeLine) :
    Inv X pins σ (upd H l (.lst ys)) { s with heap := s.heap.update l (Obj.mapSeq f), toks := t' } := by
  have q := PySem.IsL.update e f
  rw [hf] at q
  refine I.write (x := l) (e := l) (by rw [hH]; exact trivial) (.inl rfl) (fun b' u hb hu => (Heap.get?_update_other s.heap (Obj.mapSeq f) (Ne.symm hb)).trans hu) ⟨_, q⟩ ?_
  exact ⟨hz, its', _, hv, q⟩
theorem Inv.lnew {its : List Value} {t' : Nat} (I : Inv X pins σ H s) (hv : Vals ys its) (hz : ys.length ≤ sizeLine) :
    Inv X pins σ (upd H s.heap.objs.size (.lst ys)) { s with heap := s.heap.push { cls := .type "list", data := .seq its.toArray }, toks := t' } :=
  I.laid (fun _ _ q => Heap.get?_push_of_some _ q) (Nat.le_refl _) ⟨hz, its, 0, hv, Heap.get?_push_size _ rfl⟩
theorem Inv.fresh (I : Inv X pins σ H s) : H s.heap.objs.size = none := I.hok.fresh (Nat.le_refl _)
theorem Inv.lstM (I : Inv X pins σ H s) (hH : H l = some (.lst xs)) : xs.length ≤ sizeLine ∧ ∃ (its : List Value) (n : Nat), Vals xs its ∧ xs.length = its.length ∧ s.heap.get? l = some { cls := .type "list", data := .seq its.toArray n } := by
  obtain ⟨z, its, n, r, e⟩ := I.hok l _ hH
  exact ⟨z, its, n, r, r.length, e⟩

theorem notLongL {n : Nat} (h : n ≤ sizeLine) : Builtin.List.listTooLong n = false := by
  unfold Builtin.List.listTooLong
  exact decide_eq_false (by omega)
end

section
variable {X : Cx}

/-! ### methods -/
def rAppend : V → List V → Hp → VK → Prop := fun x vs H Q => ∃ l xs y, x = .ref l ∧ vs = [y] ∧ H l = some (.lst xs) ∧ xs.length < sizeLine ∧ Q .non (upd H l (.lst (xs ++ [y])))
theorem mt_append : MtM X "list.append" rAppend := by
  intro pins s σ H x vs v us Q I rx rv h
  obtain ⟨l, xs, y, rfl, rfl, hH, hz, q⟩ := h
  cases rx
  obtain ⟨u, rfl, ru⟩ := rv.one
  obtain ⟨z, its, n, r, hl, e⟩ := I.lstM hH
  refine call_meets F.slot_list_append ⟨_, e, rfl⟩ F.entry_list_append (F.args_list_append_2 _ _) (PySem.list_append l its.toArray n u (by rw [List.size_toArray]; omega)) ⟨e, ?_⟩
  refine ⟨.non, _, I.lset (its' := its ++ [u]) hH e (by simp) (r.append (.cons ru .nil)) ?_, rfl, q⟩
  rw [List.length_append, List.length_singleton]
  omega

def rExtend : V → List V → Hp → VK → Prop := fun x vs H Q => ∃ l b xs zs, x = .ref l ∧ vs = [.ref b] ∧ H l = some (.lst xs) ∧ H b = some (.lst zs) ∧ xs.length + zs.length ≤ sizeLine ∧ Q .non (upd H l (.lst (xs ++ zs)))
theorem mt_extend : MtM X "list.extend" rExtend := by
  intro pins s σ H x vs v us Q I rx rv h
  obtain ⟨l, b, xs, zs, rfl, rfl, hH, hB, hz, q⟩ := h
  cases rx
  obtain ⟨u, rfl, ru⟩ := rv.one
  cases ru
  obtain ⟨z, its, n, r, hl, e⟩ := I.lstM hH
  obtain ⟨z2, its2, n2, r2, hl2, e2⟩ := I.lstM hB
  have hsz : its.toArray.size + its2.toArray.size ≤ sizeLine := by rw [List.size_toArray, List.size_toArray]; omega
  have hlong : ¬ (!its.toArray.isEmpty && Builtin.List.listTooLong (its.toArray.size + its2.toArray.size)) = true := by
    rw [notLongL hsz, Bool.and_false]
    exact Bool.false_ne_true
  refine call_meets F.slot_list_extend ⟨_, e, rfl⟩ F.entry_list_extend (F.args_list_extend_2 _ _)
    (AutoSeq1.list_extend_list_list_0 l its.toArray n b its2.toArray n2 hlong (by rw [List.size_toArray]; omega) (by omega)) ⟨e, e2, ?_⟩
  refine ⟨.non, _, I.lset (its' := its ++ its2) hH e (by simp) (r.append r2) ?_, rfl, q⟩
  rw [List.length_append]
  omega

def rPop : V → List V → Hp → VK → Prop := fun x vs H Q => ∃ l xs y, x = .ref l ∧ vs = [] ∧ H l = some (.lst xs) ∧ xs[xs.length - 1]? = some y ∧ Q y (upd H l (.lst xs.dropLast))
theorem mt_pop : MtM X "list.pop" rPop := by
  intro pins s σ H x vs v us Q I rx rv h
  obtain ⟨l, xs, y, rfl, rfl, hH, hy, q⟩ := h
  cases rx
  have hus := rv.zero
  subst hus
  obtain ⟨z, its, n, r, hl, e⟩ := I.lstM hH
  obtain ⟨u, hu, ru⟩ := r.get hy
  have hy' : its.toArray[its.toArray.size - 1]? = some u := by
    show its.toArray[its.length - 1]? = some u
    rw [← Array.getElem?_toList, ← hl]
    exact hu
  refine call_meets F.slot_list_pop ⟨_, e, rfl⟩ F.entry_list_pop (F.args_list_pop_1 _) (MeetsSeq.list_pop_last l its.toArray n u hy' (by rw [List.size_toArray]; omega)) ⟨e, ?_⟩
  refine ⟨y, _, I.lset (its' := its.dropLast) hH e ?_ r.dropLast ?_, ru, q⟩
  · show its.toArray.eraseIdxIfInBounds (its.toArray.size - 1) = its.dropLast.toArray
    rw [List.size_toArray, List.eraseIdxIfInBounds_toArray, erase_last]
  · rw [List.length_dropLast]
    omega




/-! ### list + list, list += list, list * int -/
def rCat : R2 := fun x y H Q => ∃ l b xs zs, x = .ref l ∧ y = .ref b ∧ H l = some (.lst xs) ∧ H b = some (.lst zs) ∧ xs.length + zs.length ≤ sizeLine ∧ ∀ p, H p = none → Q (.ref p) (upd H p (.lst (xs ++ zs)))
theorem op_cat : OpR X (binaryOp .Add) rCat := by
  intro pins s σ H x y v u Q I rx ry h
  obtain ⟨l, b, xs, zs, rfl, rfl, hH, hB, hz, q⟩ := h
  cases rx
  cases ry
  obtain ⟨z, its, n, r, hl, e⟩ := I.lstM hH
  obtain ⟨z2, its2, n2, r2, hl2, e2⟩ := I.lstM hB
  refine PySem.P.add_list e e2 ?_ (by rw [List.size_toArray, List.size_toArray]; omega)
  have ea : its.toArray ++ its2.toArray = (its ++ its2).toArray := by simp
  rw [ea]
  exact ⟨.ref _, _, I.lnew (t' := s.toks) (r.append r2) (by rw [List.length_append]; omega), rfl, q _ I.fresh⟩

/-! ### del xs[i] -/
end

/-! ### xs[a:b] = ys -/
section
variable {prog : Program} {w : World} {A : Around} {E : Value → Shared → Prop} {s : Shared}
end

section
variable {X : Cx}
end
end L2

namespace L2
open PySem PySem.Spec PyProof.Rows

/-! ### lists of pairs as tables -/
section
variable {κ : Type} [DecidableEq κ]



end


/-! ### a tracked dict, its keys ints and texts or tuples of these -/


section
variable {P : Program} {w : World} {H : Hp} {h : Heap} {a : Addr}
end



section
variable {X : Cx} {pins : List (Addr × Obj)} {σ : St} {H : Hp} {s : Shared} {a : Addr} {y v : V} {u r : Value} {o : Option V} {A : Around} {E : Value → Shared → Prop}


end

section
variable {X : Cx} {pins : List (Addr × Obj)} {σ : St} {H : Hp} {s : Shared} {a : Addr} {kvs : List (Key × V)} {k : Key} {u : Value} {A : Around} {E : Value → Shared → Prop}
end


/-! ### readings and rules -/



section
variable {X : Cx} {o i e value : Expr} {pos pos' tpos : Pos} {td ty tv : TE}
end


/-! ### displays -/
section
variable {X : Cx} {pos : Pos}
end




/-! ### methods -/
/-- a method call o.m(e) of a built-in, with one argument: what must be seen of the text -/
structure M1 (X : Cx) (o : Expr) (m : Str) (apos : Pos) (e : Expr) (cpos : Pos) : Prop where
  base : attributeBase o m X.env (eval o X.env) = eval o X.env
  few : ((backTo cpos (starEach [e] X.env)).all (fun x => !x.1) && (backToKw cpos (keywordEach [] X.env)).all (fun x => x.1.isSome)
    && decide (([e] : List Expr).length + ([] : List Keyword).length + (if ([] : List Keyword).isEmpty then 0 else 1) < 30)) = true
  line : (apos.endLine == cpos.line) = true
  trees : backTo cpos (starEach [e] X.env) = [(false, eval e X.env)]
structure M2 (X : Cx) (o : Expr) (m : Str) (apos : Pos) (e f : Expr) (cpos : Pos) : Prop where
  base : attributeBase o m X.env (eval o X.env) = eval o X.env
  few : ((backTo cpos (starEach [e, f] X.env)).all (fun x => !x.1) && (backToKw cpos (keywordEach [] X.env)).all (fun x => x.1.isSome)
    && decide (([e, f] : List Expr).length + ([] : List Keyword).length + (if ([] : List Keyword).isEmpty then 0 else 1) < 30)) = true
  line : (apos.endLine == cpos.line) = true
  trees : backTo cpos (starEach [e, f] X.env) = [(false, eval e X.env), (false, eval f X.env)]


section
variable {X : Cx} {pins : List (Addr × Obj)} {σ : St} {H : Hp} {s : Shared} {a : Addr} {y d : V} {u r : Value} {o : Option V} {A : Around} {E : Value → Shared → Prop}
end

section
variable {X : Cx} {o e f : Expr} {apos cpos : Pos} {td ty tx : TE}
end

/-! ### dict(d): a copy -/
section
variable {X : Cx} {pins : List (Addr × Obj)} {σ : St} {H : Hp} {s : Shared} {a : Addr} {kvs : List (Key × V)} {A : Around} {E : Value → Shared → Prop}
end


section
variable {X : Cx} {pins : List (Addr × Obj)} {σ : St} {H : Hp} {s : Shared} {a : Addr} {y : V} {u : Value} {A : Around} {E : Value → Shared → Prop}
end
end L2

namespace Att
open PySem PySem.W PySem.Calls PyProof.Rows

/-! ### the script -/
theorem ints_of_wellAll {P : Params} {h : Heap} : ∀ (ns : List Int) (vs : List Value), WellAll P h vs (ns.map WData.int) → IntsAre vs ns := by
  intro ns
  induction ns with
  | nil =>
    intro vs w
    rw [List.map_nil] at w
    cases w
    exact .nil
  | cons n ns ih =>
    intro vs w
    rw [List.map_cons] at w
    cases w with
    | cons a b =>
      cases a
      exact .cons _ _ (ih _ b)

theorem script_of {l : OpenLaw} {n : Nat} (hn : l.most = some n) {P : Params} {h : Heap} {args : List WData} {vals : List Value}
    (hpre : l.row.toRowW.claim.pre args = true) (hwl : WellAll P h vals args) :
    ∃ a vs ns, vals = [Value.ref a] ∧ args = [WData.list (ns.map WData.int)] ∧ h.get? a = some { cls := .type "list", data := .seq vs.toArray } ∧ IntsAre vs ns ∧ ns.length ≤ n := by
  have hsh : WShape.hasAll [] args [.list .int] = true := (pre_splitW hpre).1
  have hc : l.pre.holds [] { args := args } = true := (pre_splitW hpre).2
  obtain ⟨d, r, rfl, h1, h2⟩ := hasAllW_cons hsh
  obtain rfl := hasAllW_nil h2
  obtain ⟨xs, rfl, h3⟩ := hasW_list h1
  obtain ⟨ns, rfl⟩ := items_int h3
  have hlen : ns.length ≤ n := by
    unfold OpenLaw.pre at hc
    have h4 : (WTm.not (.lt (.lit (.int (n : Int))) (.len (.arg 0)))).holds [] { args := [.list (ns.map .int)] } = true := by
      have h4 := (holds_andW hc).1
      rw [hn] at h4
      exact h4
    have h5 := condW_of h4 (w_not (w_lt w_lit (w_len_list (w_arg rfl))))
    rw [List.length_map] at h5
    refine Nat.le_of_not_lt fun q => ?_
    have q' : (n : Int) < ((ns.length : Nat) : Int) := by omega
    first
      | (rw [decide_eq_true q'] at h5; exact absurd h5 (by decide))
      | (simp at h5; omega)
  cases hwl with
  | cons w1 w2 =>
    cases w2
    cases w1 with
    | list ho hall => exact ⟨_, _, ns, rfl, rfl, ho, ints_of_wellAll ns _ hall, hlen⟩

theorem post_true (l : OpenLaw) (args : List WData) : l.row.toRowW.claim.post args (.bool true) args = true :=
  postW_of (r := l.row.toRowW) (X := (true == true))
    (show WShape.has [] (.bool true) .bool = true by first | rfl | decide | simp [WShape.has, WShape.arms, WShape.armsAll])
    (show (WTm.eq .res (.lit (.bool true))).value [] { args := args, res := some (.bool true), after := args } = some (.bool (true == true)) from w_eq_bool (w_res rfl) w_lit) rfl

/-! ### the attachment: holds_open's last premise (the goal 'hc' behind k_head) from a wpAny of the law's body -/

/-- the same from a codeAny of the CALL (for a layer whose function contracts speak of calls) -/
theorem attach_call {l : OpenLaw} {n : Nat} {q : Program} {loose : List Str} {XP : (Str → Option Value) → Heap → Prop} {YP : World → Heap → Prop} {d : DefRec}
    (hn : l.most = some n) (hdf : d.params.defaults = [])
    (call : ∀ (w : World) (s₀ s₁ : Shared) (mg mb : Str → Option Value) (fa : Addr) (o : Obj) (pm cd doc : Value) (a : Addr) (vs : List Value) (ns : List Int),
      Ground q loose [] XP w s₀ mg mb s₁.heap → YP w s₁.heap →
      s₁.heap.get? fa = some o → o.data = .func (docDef d.name d.params d.body d.scope pm cd doc) → s₁.heap.CodeRec cd d.name → mg d.name = some (.ref fa) →
      s₁.heap.get? a = some { cls := .type "list", data := .seq vs.toArray } → IntsAre vs ns → ns.length ≤ n → s₁.gens = #[] →
      codeAny (model l.prog w) callerA (.call (.ref fa) ⟨[.ref a], []⟩) (fun r s' => r = .ok (.ret (.bool true)) ∧ OldK s₁.heap s'.heap ∧ s'.os = s₁.os ∧ AllBare s'.gens) s₁) :
    WalkO q loose XP YP l.row.toRowW d [] (fun f vs => PySem.call f vs) := by
  intro w s₀ s₁ mg mb G Y fa o pm cd doc dV kV ho hd hcd hD hmg hg args vals as hpre hlay hrd hwl hlo
  obtain rfl : dV = .none := Dflts.none hD hdf
  obtain rfl : kV = .none := Dflts.noKw hD
  obtain ⟨a, vs, ns, rfl, rfl, hobj, hints, hlen⟩ := script_of hn hpre hwl
  refine enter_call (codeAny_mono (call w s₀ s₁ mg mb fa o pm cd doc a vs ns G Y ho (fd_plain hd) hcd hmg hobj hints hlen hg) fun r s' hq => ?_)
  obtain ⟨rfl, h2, h3, h4⟩ := hq
  exact ⟨.inl ⟨.bool true, .bool true, [], rfl, fun _ => rfl, .bool true, post_true l _, fun _ => ⟨List.Pairwise.nil, fun _ hm => (nomatch hm)⟩⟩, h2, h3, h4⟩


/-! ### rules over ANY heap (no ledger) from facts about the written part K: the library's own take a ledger (News) for what they write -/
section
variable {prog : Program} {w : World} {A : Around} {E : Value → Shared → Prop} {s : Shared} {K : Frag}





/-! the whole heap as the ledger: makes every rule that writes through a ledger a rule over any heap -/

end
end Att

namespace L2
open PySem PySem.Spec PyProof.Rows

theorem vals_ints : ∀ {vs : List Value} {ns : List Int}, IntsAre vs ns → Vals (ns.map V.int) vs
  | _, _, .nil => .nil
  | _, _, .cons n t h => .cons ⟨t, rfl⟩ (vals_ints h)

/-- nothing is tracked but the script, known to the object (or it is an object of the module) -/
def Only (H : Hp) : Prop := ∀ b, H b = none ∨ ∃ o xs, H b = some (.frz o (.lst xs))

/-- THE HEAD: the law's promise, at the heap behind the top. F, the promise of the law's def, may use that base is part of the heap (so K.In base, base.Ns mainGlobals mg stand in Mod) -/
theorem law_call {P : Program} {w : World} {K : PySem.W.Frag} {mg mb : Str → Option Value} {CX : CXT} {k : Nat} {fa a : Addr} {fd : FuncData} {x : Str} {sp : Sp} {s₁ : Shared} {vs : List Value} {ns : List Int}
    (KX : K.In s₁.heap) (hns : s₁.heap.Ns mainGlobals mg) (hb : s₁.heap.Ns builtinsNs mb) (hbb : ∀ x : Str, x ≠ "__name__" → mb x = bootBuiltins x) (hlim : s₁.heap.NoLimit) (hg : s₁.gens = #[])
    (ha : s₁.heap.get? a = some { cls := .type "list", data := .seq vs.toArray }) (hi : IntsAre vs ns) (hl : ns.length ≤ sizeLine) (hr : Room k callerA)
    (F : ∀ base : Heap, K.In base → base.Ns mainGlobals mg → FnOk P w K mg base CX k fa fd [x] sp) (hbind : ∀ (s : Shared) (u : Value), BindsTo s fd ⟨[u], []⟩ [(x, u)])
    (hsp : ∀ H : Hp, Only H → SqL K H a (ns.map V.int) → sp [.ref a] H (fun v _ => v = .bl true) fun _ _ _ => False)
    (hCX : ∀ H e s', CX [] H s₁ (fun _ _ _ => False) e s' → False) :
    codeAny (model P w) callerA (.call (.ref fa) ⟨[.ref a], []⟩) (fun r s' => r = .ok (.ret (.bool true)) ∧ OldK s₁.heap s'.heap ∧ s'.os = s₁.os ∧ AllBare s'.gens) s₁ := by
  have rv := vals_ints hi
  have lenV := hi.length
  -- from an abstract heap in which nothing but the script may be tracked
  have core : ∀ H : Hp, Only H → SqL K H a (ns.map V.int) → HOk P w H s₁.heap → (∀ b, H b ≠ none → b = a) → (H a ≠ none → K.lookup a = none) →
      codeAny (model P w) callerA (.call (.ref fa) ⟨[.ref a], []⟩) (fun r s' => r = .ok (.ret (.bool true)) ∧ OldK s₁.heap s'.heap ∧ s'.os = s₁.os ∧ AllBare s'.gens) s₁ := by
    intro H hO hS hok hA hK
    have base_of : ∀ {b : Addr} {o : Obj}, s₁.heap.get? b = some o → H b = none → (hidT s₁.heap H).get? b = some o := fun e n => hidT_get e n
    have noA : ∀ {b : Addr} {o : Obj} {es : Array DictEntry} {ep : Nat}, s₁.heap.get? b = some o → o.data = .dict es ep → H b = none := fun {b o es ep} e d => by
      cases q : H b with
      | none => rfl
      | some u =>
        have e' : b = a := hA b (by rw [q]; simp)
        subst e'
        rw [ha] at e; cases e
        have d' : Data.seq vs.toArray _ = Data.dict es ep := d
        cases d'
    have nsK : ∀ {b : Addr} {m : Str → Option Value}, s₁.heap.Ns b m → (hidT s₁.heap H).Ns b m := fun {b m} ⟨o, es, ep, e, d, r⟩ => ⟨o, es, ep, base_of e (noA e d), d, r⟩
    have hKb : K.In (hidT s₁.heap H) := fun b o e => base_of (KX b o e) (by
      cases q : H b with
      | none => rfl
      | some u =>
        have e' : b = a := hA b (by rw [q]; simp)
        subst e'
        rw [hK (by rw [q]; simp)] at e; cases e)
    have hM : Mod K mg (hidT s₁.heap H) := ⟨hKb, nsK hns, ⟨mb, nsK hb, hbb⟩, let ⟨mc, h1, h2⟩ := hlim; ⟨mc, nsK h1, h2⟩⟩
    have e0 : Env0 P w K mg (hidT s₁.heap H) callerA [] s₁ H := ⟨rfl, hM, fun b o e => of_hidT e, Nat.le_of_eq (hidT_size _ _), trivial, fun b hb => absurd (show b ∈ ([] : List Addr) from hb) (by simp), hok, .of_eq hg⟩
    refine codeAny_mono ((F _ hKb (nsK hns)).run callerA [] s₁ H ⟨[.ref a], []⟩ [.ref a] [.ref a] _ _ hr e0 (hbind s₁ (.ref a)) (.cons rfl .nil) (hsp H hO hS)) fun r s' h => ?_
    cases r with
    | error e => exact (hCX H e s' h).elim
    | ok fl =>
      cases fl with
      | next => exact False.elim h
      | brk => exact False.elim h
      | cont => exact False.elim h
      | ret u =>
        obtain ⟨v, H', os, bare, un, hok', r', q⟩ := h
        have q' : v = .bl true := q
        subst q'
        obtain rfl : u = Value.bool true := r'
        refine ⟨rfl, OldK.of_keep fun b o e => ?_, os, bare⟩
        cases q : H b with
        | none => exact un.keep b o e q (by intro z; exact absurd (show b ∈ ([] : List Addr) from z) (by simp)) (by simp)
        | some u =>
          rcases hO b with z | ⟨ob, xs, z⟩
          · rw [q] at z; cases z
          · have z2 := un.frzs b ob _ z
            obtain ⟨e1, _⟩ := hok b _ z
            obtain ⟨e2, _⟩ := hok' b _ z2
            rw [e] at e1; cases e1
            exact e2
  cases hk : K.lookup a with
  | some o =>
    -- the script is one of the module's own objects
    have e := KX a o hk
    rw [ha] at e
    cases e
    refine core (fun _ => none) (fun _ => .inl rfl) (.inr ⟨_, vs.toArray, _, hk, rfl, rfl, rfl, by rw [List.size_toArray, lenV]; exact hl, by simpa using rv⟩) (fun b u z => by have z' : (none : Option HO) = some u := z; cases z') (fun b z => absurd rfl z) fun z => absurd rfl z
  | none =>
    refine core (fun b => if b = a then some (.frz { cls := .type "list", data := .seq vs.toArray } (.lst (ns.map V.int))) else none) (fun b => ?_) (.inl (.inr ⟨{ cls := .type "list", data := .seq vs.toArray }, if_pos rfl⟩)) (fun b u z => ?_) (fun b z => ?_) fun _ => hk
    · by_cases hb : b = a
      · exact .inr ⟨_, _, if_pos hb⟩
      · exact .inl (if_neg hb)
    · by_cases hb : b = a
      · have z' := (if_pos hb).symm.trans z
        cases z'
        subst hb
        exact ⟨ha, by rw [List.length_map]; exact hl, vs, _, rv, ha⟩
      · have z' := (if_neg hb).symm.trans z
        cases z'
    · by_cases hb : b = a
      · exact hb
      · exact absurd (if_neg hb) z
end L2

namespace L2
open PySem PySem.Spec PyProof.Rows


/-- the goal that k_head leaves (case hc), from the law's promise. F gives the function object fd (K's own) once, then the promise over every base -/
theorem walk_of {l : PySem.W.OpenLaw} {n k : Nat} {q : Program} {loose : List Str} {XP : (Str → Option Value) → Heap → Prop} {YP : World → Heap → Prop} {d : DefRec} {K : Params → PySem.W.Frag} {CX : World → CXT} {sp : World → Sp} {x : Str}
    (hn : l.most = some n) (hn2 : n ≤ sizeLine) (hdf : d.params.defaults = []) (hr : Room k callerA)
    (hY : ∀ (w : World) (h : Heap), YP w h → (K w.params).In h)
    (F : ∀ (w : World) (mg : Str → Option Value) (fa : Addr) (h : Heap), (K w.params).In h → h.Ns mainGlobals mg → mg d.name = some (.ref fa) →
      ∃ fd : FuncData, (∀ (s : Shared) (u : Value), BindsTo s fd ⟨[u], []⟩ [(x, u)]) ∧
        ∀ base : Heap, (K w.params).In base → base.Ns mainGlobals mg → FnOk l.prog w (K w.params) mg base (CX w) k fa fd [x] (sp w))
    (hsp : ∀ (w : World) (H : Hp) (a : Addr) (ns : List Int), ns.length ≤ n → Only H → SqL (K w.params) H a (ns.map V.int) → sp w [.ref a] H (fun v _ => v = .bl true) fun _ _ _ => False)
    (hCX : ∀ (w : World) (H : Hp) (s : Shared) (e : Value) (s' : Shared), CX w [] H s (fun _ _ _ => False) e s' → False) :
    PySem.W.WalkO q loose XP YP l.row.toRowW d [] (fun f vs => PySem.call f vs) := by
  refine Att.attach_call hn hdf fun w s₀ s₁ mg mb fa o pm cd doc a vs ns G Y ho hd hcd hmg hobj hints hlen hg => ?_
  have KX := hY w _ Y
  obtain ⟨fd, hb, hF⟩ := F w mg fa _ KX G.T.g hmg
  exact law_call KX G.T.g G.T.b G.T.builtins G.T.nolimit hg hobj hints (Nat.le_trans hlen hn2) hr hF hb (fun H hO hS => hsp w H a ns hlen hO hS) fun H e s' => hCX w H s₁ e s'
end L2

/- THE LAST THEOREM (shape; LID, My.* are yours):
   My.Adr: a structure of the addresses that your layer names (classes, functions); My.Txt K t: a structure (Prop) of the equations over K;
   My.txt_mk : {K} {implicit addresses ..} (e1 : nsIn K mainGlobals "law" = some (some (.ref f))) (e2 : K.lookup f = some ⟨oc, od, .func (fnOf "law" "law" params body scope dV kV doc pm an cdv ct), sl⟩) (e3 : codeIn K cdv "law" = true) .. : ∃ t, My.Txt K t

set_option maxHeartbeats 0 in
theorem PySem.Challenge.cw_LID_holds : PySem.Challenge.rw_LID.Holds := by
  w_on; o_law; k_head; (case hw => w_witness2)
  k_fill
  refine L2.walk_of (l := PySem.Challenge.rw_LID) (n := 63) (k := 40) (x := "script") (CX := fun w => ..) (sp := fun _ => My.sp_law) rfl (by decide) rfl ⟨rfl, by decide, by decide⟩ (fun w h Y => PySem.W.kIn_of Y) ?F ?S ?C
  case F =>
    intro w mg fa h KX G hmg
    have T : ∃ t, My.Txt (L2.KOf KX) t := by
      dsimp only [L2.KOf]                          -- K must stand as «<heap const> w.params» for k_is
      refine' My.txt_mk ?e1 ?e2 ?e3 ..
      (case e1 => PySem.W.k_is)                    -- in the order: a name -> its address -> its object -> its parts
      (case e2 => PySem.W.k_is)
      ..
    obtain ⟨t, T⟩ := T
    have e0 := hmg.symm.trans (PySem.W.mg_of KX G T.law)
    cases e0                                       -- fa is the law's own address
    exact ⟨_, fun s u => .of_eq rfl, fun base kb nb => My.law_fn T kb nb⟩     -- if «.of_eq rfl» comes too early: refine' ⟨_, ?b, fun base kb nb => My.law_fn T kb nb⟩; exact fun s u => .of_eq rfl
  case S => exact fun w H a ns hl hO hS => ..
  case C => exact ..
(the tactic k_is has no namespace: write k_is) -/

/-! SHORT WORDS over the layer: a def of the text, its body, what a loop and a test want. -/
namespace L2
open PySem PySem.Spec PyProof.Rows

/-! ### the text by places -/
/-- the j-th statement of a class's body -/
def inClass (s : Stmt) (j : Nat) : Stmt := match s with
  | .ClassDef _ _ _ body _ _ _ _ _ _ _ => body.getD j (.Pass ⟨0, 0, 0, 0⟩)
  | _ => .Pass ⟨0, 0, 0, 0⟩
def defArgs (s : Stmt) : Arguments := match s with
  | .FunctionDef _ a _ _ _ _ _ _ _ _ => a
  | _ => { posonlyargs := [], args := [], vararg := none, kwonlyargs := [], kw_defaults := [], kwarg := none, defaults := [] }
def defBody (s : Stmt) : List Stmt := match s with
  | .FunctionDef _ _ b _ _ _ _ _ _ _ => b
  | _ => []
def defScope (s : Stmt) : Scope := match s with
  | .FunctionDef _ _ _ _ _ _ sc _ _ _ => sc
  | _ => { kind := .function, names := [], isGenerator := false, isCoroutine := false }

/-! ### no exception leaves a def -/
abbrev CX0 : CXT := fun _ _ _ _ _ _ => False
abbrev E0 : XK := fun _ _ _ => False
theorem pass0 {X : Cx} : Passes CX0 X E0 := fun _ _ _ _ _ _ _ h => h.elim

/-! ### a def (or method) of the text as it stands behind the top -/
structure Fun (K : PySem.W.Frag) (x qual : Str) (st : Stmt) (f : Addr) (fd : FuncData) : Prop where
  ex : ∃ (oc : Value) (od : Option Addr) (kV doc pm : Value) (an : Option Addr) (cdv ct : Value) (osl : Array (Option Value)),
    fd = PySem.W.fnOf x qual (defArgs st) (defBody st) (defScope st) .none kV doc pm an cdv ct ∧ K.lookup f = some ⟨oc, od, .func fd, osl⟩ ∧ PySem.W.codeIn K cdv qual = true
  kp : PySem.W.keepIn K (.ref f) = true
section
variable {P : Program} {w : World} {K : PySem.W.Frag} {mg : Str → Option Value} {base : Heap}
/-- THE RULE for a def: its body as a term of rules, and the reading of that term -/
theorem Fun.ok {x qual : Str} {st : Stmt} {f : Addr} {fd : FuncData} {N ps : List Str} {k : Nat} {sp : Sp} (F : Fun K x qual st f fd) (S : FnScope N ps (defScope st)) (len : ∀ vs H Q E, sp vs H Q E → vs.length = ps.length)
    (hbody : ∀ (cdv : Value) (A : Around) (outer : List Env) (s : Shared) (H : Hp) (vs : List V) (Q : VK) (E : XK), Room k (A.deeper (envOfC qual (defScope st) s.heap.objs.size f cdv)) → sp vs H Q E →
      ∃ t, PSs (cxOf CX0 P w K mg base N qual (defScope st) f cdv A outer s H E).nox (defBody st) t ∧ t { nx := fun _ H' => Q .non H', rt := Q } (start N vs) H) : FnOk P w K mg base CX0 (k + 1) f fd ps sp := by
  obtain ⟨oc, od, kV, doc, pm, an, cdv, ct, osl, rfl, lk, hcd⟩ := F.ex
  refine fn_of lk hcd S len fun A outer s H vs Q E hr hsp => ?_
  obtain ⟨t, h, q⟩ := hbody cdv A outer s H vs Q E hr hsp
  exact ⟨t, h.nox, q⟩
/-- how its arguments bind (no defaults): h is «fun _ _ _ _ _ _ us hl => match us, hl with | [_, _], _ => rfl», one _ a parameter -/
theorem Fun.binds {x qual : Str} {st : Stmt} {f : Addr} {fd : FuncData} {ps : List Str} (F : Fun K x qual st f fd)
    (h : ∀ (kV doc pm : Value) (an : Option Addr) (cdv ct : Value) (us : List Value), us.length = ps.length → bindArgs (PySem.W.fnOf x qual (defArgs st) (defBody st) (defScope st) .none kV doc pm an cdv ct) ⟨us, []⟩ = pure (ps.zip us)) : Binds K fd ps [] := by
  obtain ⟨oc, od, kV, doc, pm, an, cdv, ct, osl, rfl, lk, hcd⟩ := F.ex
  exact .all (h kV doc pm an cdv ct)
theorem fun_mk {x qual : Str} {st : Stmt} {f : Addr} {oc : Value} {od an : Option Addr} {osl : Array (Option Value)} {kV doc pm cdv ct : Value} (l : K.lookup f = some ⟨oc, od, .func (PySem.W.fnOf x qual (defArgs st) (defBody st) (defScope st) .none kV doc pm an cdv ct), osl⟩)
    (c : PySem.W.codeIn K cdv qual = true) (k : PySem.W.keepIn K (.ref f) = true) : Fun K x qual st f (PySem.W.fnOf x qual (defArgs st) (defBody st) (defScope st) .none kV doc pm an cdv ct) := ⟨⟨oc, od, kV, doc, pm, an, cdv, ct, osl, rfl, l, c⟩, k⟩
end
theorem small1000 {n : Nat} (h : n ≤ 1000) : n < sizeLine := Nat.lt_of_le_of_lt h (by decide)

/-! ### expressions in short: the name that stands in the i-th slot -/
section
variable {X : Cx}
theorem pv (i : Nat) {x : Str} {pos : Pos} (hN : X.N[i]? = some x := by rfl) (hv : Vis X.env.scope x := by first | exact Or.inl rfl | exact Or.inr (Or.inl rfl) | exact Or.inr (Or.inr rfl)) (hd : (x == ("__debug__" : Str)) = false := by decide)
    (hcd : (x == ("__classdict__" : Str)) = false := by decide) : PE X (.Name x pos) (tVar i) := pe_var hN hv hd hcd
end

/-! ### tests -/
theorem iteF {A B : Prop} (h : B) : if false = true then A else B := by
  rw [if_neg Bool.false_ne_true]
  exact h
theorem iteT {A B : Prop} (h : A) : if true = true then A else B := by
  rw [if_pos rfl]
  exact h
theorem ite2 {c A B : Prop} [Decidable c] (h1 : c → A) (h2 : ¬ c → B) : if c then A else B := by
  by_cases h : c
  · rw [if_pos h]
    exact h1 h
  · rw [if_neg h]
    exact h2 h

/-! ### heaps -/
/-- all that was tracked is as it was -/
def Same (H H' : Hp) : Prop := ∀ b o, H b = some o → H' b = some o
theorem Same.refl (H : Hp) : Same H H := fun _ _ h => h
theorem Same.trans {H H1 H2 : Hp} (a : Same H H1) (b : Same H1 H2) : Same H H2 := fun c o h => b c o (a c o h)
theorem Same.free {H H' : Hp} (e : Same H H') {l : Addr} (h : H' l = Option.none) : H l = Option.none := by
  cases q : H l with
  | none => rfl
  | some o =>
    rw [e l o q] at h
    cases h
theorem Same.seq {K : PySem.W.Frag} {H H' : Hp} {a : Addr} {xs : List V} (e : Same H H') (h : SqL K H a xs) : SqL K H' a xs := by
  rcases h with (h | ⟨o, h⟩) | h
  · exact .inl (.inl (e _ _ h))
  · exact .inl (.inr ⟨o, e _ _ h⟩)
  · exact .inr h

/-! ### a dict's pairs: keys that differ -/
section
variable {κ : Type} [DecidableEq κ]
end
end L2

set_option maxHeartbeats 4000000
namespace L2
open PySem PySem.Spec PyProof.Rows

/-! ### comprehensions -/
/-- the context of a comprehension's block -/
def cxC (X : Cx) (scope : Scope) (cl : List (Str × Addr)) (C : Addr) (N' : List Str) (s : Shared) (H : Hp) (fp : List Addr) (E : Value → Shared → Prop) : Cx where
  prog := X.prog
  w := X.w
  K := X.K
  mg := X.mg
  base := X.base
  A := X.A
  N := N'
  s₀ := s
  H₀ := H
  env := compEnvC scope cl C X.env
  outer := X.stack
  stack := X.stack
  ex := fp
  fn := fun _ => false
  calm := X.calm
  pn := []
  xe := E

theorem forIn_cells {env : Env} (f : Str × NameKind → List (Str × Addr) → Sem (ForInStep (List (Str × Addr)))) (hf : ∀ n k cs, f (n, k) cs = if (k == NameKind.free) = true then (cellOf env n >>= fun a => pure (ForInStep.yield ((n, a) :: cs))) else pure (ForInStep.yield cs)) :
    ∀ (l : List (Str × NameKind)) (cs : List (Str × Addr)), (∀ n, (n, NameKind.free) ∈ l → ∃ c, env.cells.lookup n = some c) → (∀ n c, cs.lookup n = some c → env.cells.lookup n = some c) →
      ∃ cl, forIn l cs f = (pure cl : Sem _) ∧ (∀ n c, cl.lookup n = some c → env.cells.lookup n = some c) ∧ (∀ n, (n, NameKind.free) ∈ l → ∃ c, cl.lookup n = some c) ∧ (∀ n c, cs.lookup n = some c → ∃ c', cl.lookup n = some c')
  | [], cs, _, hc => ⟨cs, rfl, hc, fun n hn => absurd hn (by simp), fun n c e => ⟨c, e⟩⟩
  | (n, k) :: l, cs, h, hc => by
    have hl : ∀ m, (m, NameKind.free) ∈ l → ∃ c, env.cells.lookup m = some c := fun m hm => h m (List.mem_cons_of_mem _ hm)
    by_cases hk : k = .free
    · subst hk
      obtain ⟨c, ec⟩ := h n List.mem_cons_self
      have hc' : ∀ m d, ((n, c) :: cs).lookup m = some d → env.cells.lookup m = some d := fun m d e => by
        rw [List.lookup_cons] at e
        by_cases q : m == n
        · rw [q] at e
          have := beq_iff_eq.mp q
          subst this
          rw [ec]; exact e
        · rw [Bool.eq_false_iff.mpr q] at e
          exact hc m d e
      obtain ⟨cl, e1, e2, e3, e4⟩ := forIn_cells f hf l ((n, c) :: cs) hl hc'
      refine ⟨cl, ?_, e2, fun m hm => ?_, fun m d e => ?_⟩
      · rw [List.forIn_cons, hf, if_pos (show (NameKind.free == NameKind.free) = true from rfl)]
        have : cellOf env n = pure c := by unfold cellOf; rw [ec]
        rw [this]
        exact e1
      · rcases List.mem_cons.mp hm with z | z
        · cases z
          exact e4 n c (by rw [List.lookup_cons]; simp)
        · exact e3 m z
      · by_cases q : m = n
        · subst q; exact e4 m c (by rw [List.lookup_cons]; simp)
        · exact e4 m d (by rw [List.lookup_cons, beq_eq_false_iff_ne.mpr q]; exact e)
    · obtain ⟨cl, e1, e2, e3, e4⟩ := forIn_cells f hf l cs hl hc
      refine ⟨cl, ?_, e2, fun m hm => ?_, e4⟩
      · rw [List.forIn_cons, hf, if_neg (by simpa using hk)]
        exact e1
      · rcases List.mem_cons.mp hm with z | z
        · cases z; exact absurd rfl hk
        · exact e3 m z
theorem closure_of {env : Env} {scope : Scope} (h : ∀ n, (n, NameKind.free) ∈ scope.names → ∃ c, env.cells.lookup n = some c) :
    ∃ cl, closureFor scope env = pure cl ∧ (∀ n c, cl.lookup n = some c → env.cells.lookup n = some c) ∧ (∀ n, (n, NameKind.free) ∈ scope.names → ∃ c, cl.lookup n = some c) := by
  obtain ⟨cl, e1, e2, e3, _⟩ := forIn_cells (env := env) (fun x __s => match x with
    | (name, kind) => if (kind == NameKind.free) = true then (do let a ← cellOf env name; pure (ForInStep.yield ((name, a) :: __s))) else pure (ForInStep.yield __s)) (fun n k cs => rfl) scope.names [] h (fun n c e => nomatch e)
  refine ⟨cl, ?_, e2, e3⟩
  unfold closureFor
  dsimp only
  rw [e1]
  all_goals rfl

/-- the tests of a clause -/
def PIf (X : Cx) (ifs : List Expr) (t : TT) : Prop :=
  ∀ (pins : List (Addr × Obj)) (s : Shared) (σ : St) (H : Hp) (Q : Bool → Hp → Prop), Inv X pins σ H s → t σ H Q →
    wpAny (model X.prog X.w) X.A (forIn ifs true fun c r => if r = true then do let ok ← isTrue c X.env (eval c X.env); pure (ForInStep.yield ok) else pure (ForInStep.yield r)) (TP X pins σ Q) X.xe s
def tYes : TT := fun _ H Q => Q true H
theorem tYes_of {σ : St} {H : Hp} {A B : Hp → Prop} (h : A H) : tYes σ H fun b H3 => if b = true then A H3 else B H3 := by
  show if true = true then A H else B H
  rw [if_pos rfl]
  exact h
theorem pif_nil {X : Cx} : PIf X [] tYes := fun _ _ _ H _ I h => wpAny_tests_nil ⟨H, I, h⟩
theorem pif_one {X : Cx} {c : Expr} {t : TT} (h : PT X c t) : PIf X [c] t := fun pins s σ H Q I hw => wpAny_tests_one (h pins s σ H Q I hw)

theorem compLoop_any {prog : Program} {w : World} {A : Around} {R : Result → Shared → Prop} {s : Shared} {elt target iter : Expr} {ifs : List Expr} {scope : Scope} {pos : Pos} {it acc : Value} {env : Env} (I : Nat → Shared → Prop)
    (turn : ∀ n s, I n s → wpAny (model prog w) A (pyNext it) (fun r s₁ => match r with
      | none => R (.ok .next) s₁
      | some v => wpAny (model prog w) A (letOwnedTupleGo target it v) (fun _ s₁' => wpAny (model prog w) A (assign target env v) (fun _ s₂ =>
          wpAny (model prog w) A (forIn ifs true fun c r => if r = true then do let ok ← isTrue c env (eval c env); pure (ForInStep.yield ok) else pure (ForInStep.yield r)) (fun ok s₃ =>
            if ok = true then wpAny (model prog w) A (eval elt env) (fun x s₄ =>
              wpAny (model prog w) A (call (.builtin "list.append") [acc, x]) (fun _ s₅ => ∃ m, m < n ∧ I m s₅) (notedBy (model prog w) A env fun e s' => R (.error e) s') s₄) (notedBy (model prog w) A env fun e s' => R (.error e) s') s₃
            else ∃ m, m < n ∧ I m s₃) (notedBy (model prog w) A env fun e s' => R (.error e) s') s₂) (notedBy (model prog w) A env fun e s' => R (.error e) s') s₁') (notedBy (model prog w) A env fun e s' => R (.error e) s') s₁) (notedBy (model prog w) A env fun e s' => R (.error e) s') s)
    (n : Nat) (h : I n s) :
    codeAny (model prog w) A (.compLoop (.ListComp elt [⟨target, iter, ifs, 0⟩] scope pos) 0 it acc env) R s := by
  refine codeAny_loop rfl I (fun n s hI => ?_) n h
  show wpAny _ A ((compTurn (.ListComp elt [⟨target, iter, ifs, 0⟩] scope pos) 0 it acc env).onRaise (fun x => do noteFrame x env; theTreesLotGoes x)) _ _ s
  refine wpAny_noted ?_
  rw [compTurn_list]
  refine wpAny_bind (wpAny_standAt (wpAny_bind (wpAny_mono (turn n s hI) (fun r s₁ h₁ => ?_) fun _ _ h' => h')))
  cases r with
  | none => exact wpAny_pure h₁
  | some v =>
    refine wpAny_bind (wpAny_mono h₁ (fun _ s₁' h₁' => ?_) fun _ _ h' => h')
    refine wpAny_bind (wpAny_mono h₁' (fun _ s₂ h₂ => wpAny_bind (wpAny_mono h₂ (fun ok s₃ h₃ => ?_) fun _ _ h' => h')) fun _ _ h' => h')
    cases ok with
    | false => exact wpAny_pure ⟨rfl, h₃⟩
    | true =>
      exact wpAny_bind (wpAny_bind (wpAny_mono h₃ (fun x s₄ h₄ => wpAny_bind (wpAny_mono h₄ (fun _ s₅ h₅ => wpAny_pure (wpAny_pure ⟨rfl, h₅⟩)) fun _ _ h' => h')) fun _ _ h' => h'))

theorem lookup_relabel_free {env : Env} : ∀ {names : List (Str × NameKind)} {x : Str}, names.lookup x = some .free →
    (names.map fun (n, k) => if (k == NameKind.free && env.scope.kind == .function && env.kindOf n == some .cell) then (n, NameKind.cell) else (n, k)).lookup x = some .cell ∨
    (names.map fun (n, k) => if (k == NameKind.free && env.scope.kind == .function && env.kindOf n == some .cell) then (n, NameKind.cell) else (n, k)).lookup x = some .free
  | [], _, h => by simp at h
  | (n, k) :: r, x, h => by
    have ih := @lookup_relabel_free env r x
    show List.lookup x ((if (k == NameKind.free && env.scope.kind == .function && env.kindOf n == some .cell) = true then (n, NameKind.cell) else (n, k)) :: _) = _ ∨ List.lookup x ((if (k == NameKind.free && env.scope.kind == .function && env.kindOf n == some .cell) = true then (n, NameKind.cell) else (n, k)) :: _) = _
    cases hx : x == n with
    | true =>
      simp only [List.lookup_cons, hx] at h
      cases h
      split <;> simp [List.lookup_cons, hx]
    | false =>
      simp only [List.lookup_cons, hx] at h
      by_cases hc : (k == NameKind.free && env.scope.kind == .function && env.kindOf n == some .cell) = true
      · rw [if_pos hc]; simp only [List.lookup_cons, hx]; exact ih h
      · rw [if_neg hc]; simp only [List.lookup_cons, hx]; exact ih h
theorem relabel_cf {env : Env} : ∀ {names : List (Str × NameKind)} {x : Str}, (∀ y ∈ names, y.2 ≠ .cell) →
    ((names.map fun (n, k) => if (k == NameKind.free && env.scope.kind == .function && env.kindOf n == some .cell) then (n, NameKind.cell) else (n, k)).lookup x = some .cell ∨
    (names.map fun (n, k) => if (k == NameKind.free && env.scope.kind == .function && env.kindOf n == some .cell) then (n, NameKind.cell) else (n, k)).lookup x = some .free) → (x, NameKind.free) ∈ names
  | [], _, _, h => by simp at h
  | (n, k) :: r, x, hn, h => by
    have ih := @relabel_cf env r x (fun y hy => hn y (List.mem_cons_of_mem _ hy))
    have h : List.lookup x ((if (k == NameKind.free && env.scope.kind == .function && env.kindOf n == some .cell) = true then (n, NameKind.cell) else (n, k)) :: _) = _ ∨ List.lookup x ((if (k == NameKind.free && env.scope.kind == .function && env.kindOf n == some .cell) = true then (n, NameKind.cell) else (n, k)) :: _) = _ := h
    cases hx : x == n with
    | true =>
      have e := beq_iff_eq.mp hx
      subst e
      have hk : k = .free := by
        by_cases hc : (k == NameKind.free && env.scope.kind == .function && env.kindOf x == some .cell) = true
        · simp only [Bool.and_eq_true, beq_iff_eq] at hc
          exact hc.1.1
        · rw [if_neg hc] at h
          simp only [List.lookup_cons, hx] at h
          rcases h with h | h
          · exact absurd (Option.some.inj h) (hn (x, k) List.mem_cons_self)
          · exact Option.some.inj h
      subst hk
      exact List.mem_cons_self
    | false =>
      refine List.mem_cons_of_mem _ (ih ?_)
      by_cases hc : (k == NameKind.free && env.scope.kind == .function && env.kindOf n == some .cell) = true
      · rw [if_pos hc] at h; simp only [List.lookup_cons, hx] at h; exact h
      · rw [if_neg hc] at h; simp only [List.lookup_cons, hx] at h; exact h

def capN (N : List Str) (js : List Nat) : List Str := js.map fun j => N.getD j Str.empty
def capSt (σ : St) (js : List Nat) : St := js.map fun j => (σ[j]?).getD none
/-- the names that the block takes from around it -/
def capOk (N : List Str) (osc sc : Scope) (js : List Nat) : Bool :=
  js.all fun j => decide (j < N.length) && (osc.names.lookup (N.getD j Str.empty) == some .cell || osc.names.lookup (N.getD j Str.empty) == some .free) && sc.names.lookup (N.getD j Str.empty) == some .free
def scOk (osc sc : Scope) (x : Str) : Bool :=
  sc.kind == .function && sc.names.all (fun y => y.2 != .cell) && sc.names.all (fun y => y.2 != .local || sc.names.lookup y.1 == some .local) && sc.names.lookup x == some .local &&
    sc.names.all (fun y => y.2 != .free || (osc.names.lookup y.1 == some .cell || osc.names.lookup y.1 == some .free))

def LcLoop (J : It) (cap : St) (tt : TT) (te : TE) (H : Hp) (P : List V → Hp → Prop) : Prop :=
  ∃ W : Nat → Nat → List V → Hp → Prop, (∃ m, W 0 m [] H) ∧ ∀ i m ys H, W i m ys H →
    (J.stop i H ∧ ys.length ≤ sizeLine ∧ P ys H) ∨ (J.go i H ∧ ys.length < sizeLine ∧ ∃ Nx : List V → Hp → Prop, (∀ ys' H', Nx ys' H' → ∃ m', m' < m ∧ W (i + 1) m' ys' H') ∧
      ∀ x H', J.yld i H x H' → tt (some x :: cap) H' fun b H3 => if b = true then te (some x :: cap) H3 fun v H4 => Nx (ys ++ [v]) H4 else Nx ys H3)


theorem Un.track {fs ex : List Addr} {H H1 : Hp} {h h1 : Heap} {D : Addr} {o : HO} (u : Un fs ex H H1 h h1) (hp : h.objs.size ≤ D) (hn : H1 D = none) : Un fs ex H (upd H1 D o) h h1 where
  keep := u.keep
  slot := u.slot
  free := fun b ob q n hx => by rw [upd_ne (Nat.ne_of_lt (Nat.lt_of_lt_of_le (Heap.lt_size q) hp))]; exact u.free b ob q n hx
  there := u.there
  tups := fun b xs q => by have z := u.tups b xs q; rw [upd_ne (ne_of_none z hn)]; exact z
  frzs := fun b ob xs q => by have z := u.frzs b ob xs q; rw [upd_ne (ne_of_none z hn)]; exact z
  tbls := fun b ps q => by obtain ⟨more, z⟩ := u.tbls b ps q; exact ⟨more, by rw [upd_ne (ne_of_none z hn)]; exact z⟩
theorem HOk.track {P : Program} {w : World} {H : Hp} {h : Heap} {D : Addr} {o : HO} (x : HOk P w H h) (hn : H D = none) (new : ObjOk P w (upd H D o) h D o) : HOk P w (upd H D o) h := fun b u e => by
  by_cases hb : b = D
  · subst hb; rw [upd_same] at e; cases e; exact new
  · rw [upd_ne hb] at e
    exact (x b u e).stay (fun c v _ q => q) (fun c q => by rw [upd_ne (ne_of_none q hn)]; exact q) fun c xs q => by rw [upd_ne (ne_of_none q hn)]; exact q
section
variable {X : Cx} {x : Str} {px : Pos} {iter elt : Expr} {ifs : List Expr} {scope : Scope} {pos : Pos} {js : List Nat} {N : List Str} {osc : Scope} {tt : TT} {te : TE} {cl : List (Str × Addr)}

theorem comp_core {RR : Value → Addr → Result → Shared → Prop} {E : Value → Shared → Prop} {pins : List (Addr × Obj)} {σ : St} {H2 : Hp} {s2 : Shared} {it : Addr} {fp : List Addr} {tn : Nat → Heap → Prop} {J : It} {P : List V → Hp → Prop}
    (hN : X.N = N) (hsc : X.env.scope = osc) (hcap : capOk N osc scope js = true) (hs1 : scOk osc scope x = true) (hnd : (x :: capN N js).Nodup) (hc : X.calm = true)
    (hin : ∀ C s H fp E, PIf (cxC X scope cl C (x :: capN N js) s H fp E) ifs tt ∧ PE (cxC X scope cl C (x :: capN N js) s H fp E) elt te)
    (I2 : Inv X pins σ H2 s2) (T : Turn X.prog X.w X.K (.Name x px) J fp it tn) (st : tn 0 s2.heap) (f2 : ∀ b ∈ fp, FpOk X pins H2 b)
    (cl1 : ∀ n c, cl.lookup n = some c → X.env.cells.lookup n = some c) (cl2 : ∀ n, (n, NameKind.free) ∈ scope.names → ∃ c, cl.lookup n = some c)
    (h : LcLoop J (capSt σ js) tt te H2 P)
    (hRR : ∀ D C ys H' s', P ys H' → H' D = none → Inv X pins σ (upd H' D (.lst ys)) s' → (∃ m, s'.heap.Ns C m) → C ≠ X.env.locals → X.s₀.heap.objs.size ≤ C → (∀ y c, X.env.cells.lookup y = some c → c ≠ C) → (∀ p ∈ X.pn ++ pins, p.1 ≠ C) →
      (upd H' D (.lst ys)) C = none → RR (.ref D) C (.ok .next) s') :
    wpAny (model X.prog X.w) X.A (newList []) (fun acc s₃ => wpAny (model X.prog X.w) X.A (newFunctionEnv scope X.env.globals cl [] X.env.qual none .none (some X.env)) (fun cenv s₄ =>
      codeAny (model X.prog X.w) X.A (.compStart (.ListComp elt [⟨.Name x px, iter, ifs, 0⟩] scope pos) 0 (.ref it) acc { cenv with scope := relabel scope X.env }) (RR acc cenv.locals) s₄) E s₃) E s2 := by
  unfold scOk at hs1
  simp only [Bool.and_eq_true, beq_iff_eq, List.all_eq_true] at hs1
  obtain ⟨⟨⟨⟨hkind, hcell0⟩, hnames0⟩, hxl⟩, hfr0⟩ := hs1
  have hcell : ∀ y ∈ scope.names, y.2 ≠ .cell := fun y hy e => by
    have := hcell0 y hy
    rw [e] at this
    simp at this
  refine wpAny_newObj_type (wpAny_newFunctionEnv hcell (by intro y hy; simp at hy) (fun h₁ hns₁ hsb₁ => ?_) hkind)
  dsimp only at hns₁ hsb₁ ⊢
  generalize hHp : s2.heap.push { cls := .type "list", dict := none, data := .seq ([] : List Value).toArray } = Hh at hns₁ hsb₁ ⊢
  have hC : Hh.objs.size = s2.heap.objs.size + 1 := by rw [← hHp, Heap.size_push]
  generalize hD : s2.heap.objs.size = D at hC ⊢
  generalize hCC : Hh.objs.size = C at hC hns₁ hsb₁ ⊢
  have hDC : D ≠ C := by omega
  have below : ∀ b o, s2.heap.get? b = some o → b < D := fun b o e => by rw [← hD]; exact Heap.lt_size e
  have old : ∀ b o, s2.heap.get? b = some o → h₁.get? b = some o := fun b o e =>
    hsb₁.extBut b o (Nat.ne_of_lt (by rw [hC]; exact Nat.lt_succ_of_lt (below b o e))) (Heap.get?_push_of_some _ (by rw [← hHp]; exact Heap.get?_push_of_some _ e))
  have hacc : h₁.get? D = some { cls := .type "list", data := .seq ([] : List Value).toArray } :=
    hsb₁.extBut D _ hDC (Heap.get?_push_of_some _ (by rw [← hHp, ← hD]; exact Heap.get?_push_size _ rfl))
  have fpD : ∀ b ∈ fp, b < D := fun b hb => by
    obtain ⟨o, e, _⟩ := T.obj _ _ st b hb
    exact below b o e
  have ltC : ∀ b : Addr, b < D → b ≠ C := fun b hb => Nat.ne_of_lt (by rw [hC]; exact Nat.lt_succ_of_lt hb)
  have hLt : X.env.locals < D := by rw [← hD]; exact I2.lt
  have cellLt : ∀ y c, X.env.cells.lookup y = some c → c < D := fun y c e => by
    obtain ⟨v, q⟩ := I2.cell y c e
    rw [← hD]; exact q.lt
  have frLt : ∀ b, b ∈ frs X.stack → b < D := fun b hb => by
    obtain ⟨_, o, ho, _⟩ := I2.stack.mem hb
    exact below b o ho
  let E' : Value → Shared → Prop := notedBy (model X.prog X.w) X.A (compEnvC scope cl C X.env) (fun e s' => RR (.ref D) C (.error e) s')
  let X' : Cx := cxC X scope cl C (x :: capN N js) s2 H2 fp E'
  have hok : X'.Ok := {
      mod := I2.ok.mod
      kind := hkind
      glob := I2.ok.glob
      blt := I2.ok.blt
      above := by show s2.heap.objs.size ≤ C; omega
      inj := fun a b c e1 e2 => I2.ok.inj a b c (cl1 _ _ e1) (cl1 _ _ e2)
      has := fun y hy => cl2 y (relabel_cf hcell hy)
      cab := fun _ _ e => nomatch e
      hd := I2.ok.hd
      frames := I2.ok.frames
      stk := .inl rfl
      exf := fun b hb => ⟨ltC b (fpD b hb), fun y c e => (f2 b hb).2.2.2.2.1 y c (cl1 _ _ e)⟩
      bs := I2.bs
      bsz := Nat.le_trans I2.ok.bsz I2.sz
      noex := fun b o e hb => by
        rcases (f2 b hb).2.2.2.1 with z | z
        · exact I2.ok.noex b o e z
        · have := Nat.lt_of_lt_of_le (Heap.lt_size e) I2.ok.bsz
          omega
      exfs := fun b hb z => by
        rcases List.mem_cons.mp (I2.stkSub b z) with e | e
        · exact (f2 b hb).2.1 e
        · exact (f2 b hb).2.2.1 e
      funs := I2.stack
      frf := I2.stkFree }
  have hl0 : (none :: capSt σ js : St).length = X'.N.length := by
    show _ = (x :: capN N js).length
    simp [capSt, capN]
  have nC2 : H2 C = none := I2.hok.fresh (by omega)
  have nD2 : H2 D = none := I2.hok.fresh (by omega)
  have I0 : Inv X' [] (none :: capSt σ js) H2 { s2 with heap := h₁, toks := s2.toks + ([] : List (Str × Value)).length } := by
    refine ⟨hok, rfl, I2.bare, Un.kept old, ⟨_, hns₁, fun i y v h1 h2 h3 => ?_⟩, fun y c e => ?_, nC2, fun y c e => I2.freeC y c (cl1 y c e), fun p hp => absurd (show p ∈ ([] : List (Addr × Obj)) from hp) (by simp), I2.hok.kept old, hl0⟩
    · cases i with
      | zero => simp at h2
      | succ i =>
        have h1' : (capN N js)[i]? = some y := by
          have z : (x :: capN N js)[i + 1]? = some y := h1
          simpa using z
        have h2' : (capSt σ js)[i]? = some (some v) := by simpa using h2
        unfold capN at h1'
        unfold capSt at h2'
        rw [List.getElem?_map] at h1' h2'
        cases ej : js[i]? with
        | none => rw [ej] at h1'; cases h1'
        | some j =>
          rw [ej] at h1' h2'
          have e1 : N.getD j Str.empty = y := Option.some.inj h1'
          have e2 : (σ[j]?).getD none = some v := Option.some.inj h2'
          have hσ : σ[j]? = some (some v) := by
            cases q : σ[j]? with
            | none => rw [q] at e2; cases e2
            | some o => rw [q] at e2; rw [show o = some v from e2]
          have hcj := (List.all_eq_true.mp hcap) j (List.mem_of_getElem? ej)
          simp only [Bool.and_eq_true, Bool.or_eq_true, beq_iff_eq, decide_eq_true_eq] at hcj
          obtain ⟨⟨hjl, hok1⟩, hok2⟩ := hcj
          rw [e1] at hok1 hok2
          have hNj : X.N[j]? = some y := by
            rw [hN, ← e1, List.getD_eq_getElem?_getD]
            simp [hjl]
          obtain ⟨m, hm, hl⟩ := I2.loc
          have hvis : Vis X.env.scope y := by
            rw [hsc]
            rcases hok1 with z | z
            · exact .inr (.inl z)
            · exact .inr (.inr z)
          obtain ⟨u, ru, look⟩ := hl j y v hNj hσ hvis
          refine ⟨u, ru, .inr ⟨lookup_relabel_free hok2, ?_⟩⟩
          rcases look with ⟨lk, _⟩ | ⟨_, c, ec, hcl⟩
          · have lk' : X.env.scope.names.lookup y = some .local := lk
            rw [hsc] at lk'
            rcases hok1 with z | z <;> (rw [z] at lk'; cases lk')
          · obtain ⟨c', ec'⟩ := cl2 y (PySem.mem_of_lookup hok2)
            have := cl1 y c' ec'
            rw [ec] at this
            cases this
            exact ⟨c, ec', let ⟨o, ho, hd⟩ := hcl; ⟨o, old c o ho, hd⟩⟩
    · obtain ⟨v, o, ho, hd⟩ := I2.cell y c (cl1 y c e)
      exact ⟨v, o, old c o ho, hd⟩
  have DfsX : D ∉ X'.fs := fun z => absurd (frLt D z) (Nat.lt_irrefl _)
  have Dfp : D ∉ fp := fun z => absurd (fpD D z) (Nat.lt_irrefl _)
  have Dcell : ∀ y c, X'.env.cells.lookup y = some c → c ≠ D := fun y c e => Nat.ne_of_lt (cellLt y c (cl1 y c e))
  have D0 : X'.s₀.heap.objs.size ≤ D := by show s2.heap.objs.size ≤ D; omega
  have fpOk : ∀ {H : Hp} {pl : List (Addr × Obj)}, (∀ b ∈ fp, H b = none) → (∀ p ∈ pl, p.1 ∉ fp) → ∀ b ∈ fp, FpOk X' pl H b := fun {H pl} hn hp b hb => by
    refine ⟨hn b hb, ltC b (fpD b hb), fun z => ?_, .inl hb, fun y c e => (f2 b hb).2.2.2.2.1 y c (cl1 y c e), fun p q => ?_⟩
    · rcases List.mem_cons.mp (I2.stkSub b z) with e | e
      · exact (f2 b hb).2.1 e
      · exact (f2 b hb).2.2.1 e
    · intro e
      rcases List.mem_append.mp q with q | q
      · exact absurd (show p ∈ ([] : List (Addr × Obj)) from q) (by simp)
      · exact hp p q (by rw [e]; exact hb)
  have hif : PIf X' ifs tt := (hin C s2 H2 fp E').1
  have helt : PE X' elt te := (hin C s2 H2 fp E').2
  obtain ⟨W, ⟨m0, w0⟩, turn⟩ := h
  have loop : ∀ s₃ : Shared, s₃ = { s2 with heap := h₁, toks := s2.toks + ([] : List (Str × Value)).length } →
      codeAny (model X.prog X.w) X.A (.compLoop (.ListComp elt [⟨.Name x px, iter, ifs, 0⟩] scope pos) 0 (.ref it) (.ref D) (compEnvC scope cl C X.env)) (RR (.ref D) C) s₃ := by
    rintro s₃ rfl
    refine compLoop_any (fun n s' => ∃ i ys its nn H', Inv X' [] (none :: capSt σ js) H' s' ∧ tn i s'.heap ∧ (∀ b ∈ fp, H' b = none) ∧ s'.heap.get? D = some { cls := .type "list", data := .seq (its : List Value).toArray nn } ∧ H' D = none ∧ Vals ys its ∧ W i n ys H') ?_ m0
      ⟨0, [], [], 0, H2, I0, T.keep _ _ _ st fun b _ o e => old b o e, fun b hb => (f2 b hb).1, hacc, nD2, .nil, w0⟩
    rintro n s3 ⟨i, ys, its, nn, H3, I3, st3, fr3, hD3, nD3, rv, w3⟩
    have hlen : ys.length = its.length := rv.length
    let ob : Obj := { cls := .type "list", data := .seq its.toArray nn }
    have nocell : ∀ v, ob.data ≠ .cell v := fun v z => nomatch z
    have I3p : Inv X' [(D, ob)] (none :: capSt σ js) H3 s3 := I3.pins_of fun p hp => by
      have e : p = (D, ob) := by simpa using hp
      subst e
      exact ⟨hD3, nD3, hDC, DfsX, nocell⟩
    have pfp : ∀ p ∈ [(D, ob)], p.1 ∉ fp := fun p hp => by
      have e : p = (D, ob) := by simpa using hp
      subst e
      exact Dfp
    rcases turn i n ys H3 w3 with ⟨stop, hz, q⟩ | ⟨go, hz, Nx, hNx, step⟩
    · refine wpAny_mono (T.done X' rfl rfl rfl hc i [(D, ob)] s3 _ H3 E' I3p (fpOk fr3 pfp) st3 stop) (fun r s4 ⟨hr, I4⟩ => ?_) fun _ _ e => e
      subst hr
      have hD4 : s4.heap.get? D = some ob := (I4.pin (D, ob) (by simp)).1
      have un : Un (frs X.stack) fp H2 H3 s2.heap s4.heap := I4.base
      obtain ⟨m, hm, _⟩ := I4.loc
      have nC3 : H3 C = none := I4.free
      refine hRR D C ys H3 s4 q nD3 ?_ ⟨m, hm⟩ (Ne.symm (ltC _ hLt)) (by have := I2.sz; omega) (fun y c e => ltC c (cellLt y c e)) (fun p hp => ?_) (by rw [upd_ne hDC.symm]; exact nC3)
      · refine I2.call' I4.os (un.track (by omega) nD3) (I4.hok.track nD3 ⟨hz, its, nn, rv, hD4⟩) I4.bare fun b hb => ?_
        obtain ⟨_, a2, _, a4, a5, a6⟩ := f2 b hb
        exact ⟨a4, a2, a5, a6⟩
      · exact ltC _ (below _ _ (I2.pin p hp).1)
    · refine wpAny_mono (T.item X' rfl rfl rfl hc i [(D, ob)] s3 _ H3 E' I3p (fpOk fr3 pfp) st3 go) (fun r s4 ⟨u, hr, h4⟩ => ?_) fun _ _ e => e
      subst hr
      refine wpAny_mono h4 (fun _ s5 ⟨xv, H5, I5, r5, y5, st5, fr5⟩ => ?_) fun _ _ e => e
      have I5' := I5.pinned (fpOk fr5 pfp) (T.obj _ _ st5)
      refine wpAny_assign_Name (store_ok (X := X') (i := 0) (x := x) I5' hnd rfl (.inl (lookup_relabel_local hxl)) r5 (fun s6 I6 => ?_) (.inr (lookup_relabel_local hxl)))
      -- behind the element or the test: the next turn
      have next : ∀ {s7 : Shared} {H7 : Hp}, Inv X' ([(D, ob)] ++ pinsAt fp s5.heap) (some xv :: capSt σ js) H7 s7 →
          Inv X' [] (none :: capSt σ js) H7 s7 ∧ tn (i + 1) s7.heap ∧ (∀ b ∈ fp, H7 b = none) ∧ s7.heap.get? D = some ob ∧ H7 D = none := fun {s7 H7} I7 => by
        have pD := I7.pin (D, ob) (List.mem_append_right _ (List.mem_append_left _ (by simp)))
        refine ⟨(I7.weak (σ' := none :: capSt σ js) (by simp) fun j v e => ?_).pins_of (fun p hp => nomatch hp), T.keep _ _ _ st5 fun b hb o e => (I7.pin (b, o) (List.mem_append_right _ (List.mem_append_right _ (mem_pinsAt hb e)))).1, fun b hb => ?_, pD.1, pD.2.1⟩
        · cases j with
          | zero => simp at e
          | succ j => simpa using e
        · obtain ⟨o, e, d⟩ := T.obj _ _ st5 b hb
          exact (I7.pin (b, o) (List.mem_append_right _ (List.mem_append_right _ (mem_pinsAt hb e)))).2.1
      refine wpAny_mono (hif _ s6 _ H5 _ I6 (step xv H5 y5)) (fun b s7 ⟨H7, I7, q7⟩ => ?_) fun _ _ e => e
      cases b with
      | false =>
        rw [if_neg Bool.false_ne_true] at q7 ⊢
        obtain ⟨m', hm, w7⟩ := hNx ys H7 q7
        obtain ⟨a1, a2, a3, a4, a5⟩ := next I7
        exact ⟨m', hm, i + 1, ys, its, nn, H7, a1, a2, a3, a4, a5, rv, w7⟩
      | true =>
        rw [if_pos rfl] at q7 ⊢
        refine wpAny_mono (helt _ s7 _ H7 _ I7 q7) (fun uv s8 ⟨v, H8, I8, r8, q8⟩ => ?_) fun _ _ e => e
        obtain ⟨m', hm, w8⟩ := hNx _ H8 q8
        obtain ⟨a1, a2, a3, a4, a5⟩ := next I8
        refine call_meets F.slot_list_append ⟨_, a4, rfl⟩ F.entry_list_append (F.args_list_append_2 _ _) (PySem.list_append D its.toArray nn uv (by rw [List.size_toArray]; omega)) ⟨a4, ?_⟩
        have q := PySem.IsL.update a4 (·.push uv)
        have e2 : its.toArray.push uv = (its ++ [uv]).toArray := by simp
        rw [e2] at q
        have kk : ∀ b o, b ≠ D → s8.heap.get? b = some o → (s8.heap.update D (Obj.mapSeq (·.push uv))).get? b = some o := fun b o hb e => (Heap.get?_update_other s8.heap _ (Ne.symm hb)).trans e
        refine ⟨m', hm, i + 1, ys ++ [v], its ++ [uv], _, H8, a1.turned (t' := s8.toks) kk a5 hDC (.inr D0) Dcell (fun p hp => ?_), T.keep _ _ _ a2 fun b hb o e => kk b o (fun z => Dfp (z ▸ hb)) e, a3, q, a5, rv.append (.cons r8 .nil), w8⟩
        · exact absurd (show p ∈ ([] : List (Addr × Obj)) from hp) (by simp)
  exact codeAny_compStart_list (loop _ rfl) (T.self X.A 0 _ _ _ (T.keep _ _ _ st fun b _ o e => old b o e) (loop _ rfl))

/-- [elt for x in iter if ..]: js, the slots of the names that the block takes from around it -/
def tLC (wi : TI) (js : List Nat) (tt : TT) (te : TE) : TE := fun σ H Q => wi σ H fun J H1 => LcLoop J (capSt σ js) tt te H1 fun ys H2 => ∀ D, H2 D = none → Q (.ref D) (upd H2 D (.lst ys))
theorem frees_of (hs1 : scOk osc scope x = true) (hsc : X.env.scope = osc) {pins : List (Addr × Obj)} {σ : St} {H : Hp} {s : Shared} (I : Inv X pins σ H s) : ∀ n, (n, NameKind.free) ∈ scope.names → ∃ c, X.env.cells.lookup n = some c := fun n hn => by
  unfold scOk at hs1
  simp only [Bool.and_eq_true, beq_iff_eq, List.all_eq_true] at hs1
  have h := hs1.2 _ hn
  simp only [bne_self_eq_false, Bool.false_or, Bool.or_eq_true, beq_iff_eq] at h
  refine I.ok.has n ?_
  show X.env.scope.names.lookup n = _ ∨ X.env.scope.names.lookup n = _
  rw [hsc]; exact h
theorem scOk.kind (hs1 : scOk osc scope x = true) : scope.kind = .function := by
  unfold scOk at hs1
  simp only [Bool.and_eq_true, beq_iff_eq, List.all_eq_true] at hs1
  exact hs1.1.1.1.1
theorem scOk.names (hs1 : scOk osc scope x = true) : ∀ y ∈ scope.names, y.2 = .local → scope.names.lookup y.1 = some .local := fun y hy e => by
  unfold scOk at hs1
  simp only [Bool.and_eq_true, beq_iff_eq, List.all_eq_true] at hs1
  have := hs1.1.1.2 y hy
  rw [e] at this
  simpa using this
theorem pe_lc {wi : TI} {ps : List Str} (_S : FnScope N ps osc) (js : List Nat) (hi : PI X (.Name x px) iter wi)
    (hin : ∀ cl C s H fp E, PIf (cxC X scope cl C (x :: capN N js) s H fp E) ifs tt ∧ PE (cxC X scope cl C (x :: capN N js) s H fp E) elt te)
    (hN : X.N = N := by rfl) (hsc : X.env.scope = osc := by rfl) (hcap : capOk N osc scope js = true := by decide +kernel) (hs1 : scOk osc scope x = true := by decide +kernel) (hnd : (x :: capN N js).Nodup := by decide +kernel) (hc : X.calm = true := by rfl)
    (hs : ∀ v, foldedSetIterable iter X.env v = pure v := by intro _; rfl) :
    PE X (.ListComp elt [⟨.Name x px, iter, ifs, 0⟩] scope pos) (tLC wi js tt te) := by
  intro pins s σ H Q I h
  obtain ⟨cl, hcl, cl1, cl2⟩ := closure_of (frees_of hs1 hsc I)
  rw [eval_ListComp]
  refine wpAny_comprehension_free (use := none) rfl hs hcl (scOk.kind hs1) (scOk.names hs1) (thn (hi pins s σ H _ I h) fun v s1 h1 => thn h1 fun itv s2 h2 => ?_)
  obtain ⟨it, fp, tn, J, H2, e, I2, T, st2, f2, lp⟩ := h2
  subst e
  refine comp_core (RR := fun acc C => compPost (model X.prog X.w) X.A X.xe none (EP X pins σ Q) acc C) hN hsc hcap hs1 hnd hc (hin cl) I2 T st2 f2 cl1 cl2 lp ?_
  intro D C ys H' s' q nD I' hm hL h0 hce hpi hfree
  refine ⟨hm.choose, hm.choose_spec, fun h' hs' => ⟨.ref D, _, I'.turned (t' := s'.toks) (fun b o hb e => hs'.extBut b o hb e) hfree hL (.inr h0) hce hpi, rfl, q D nD⟩⟩
/-- y = [elt for x in iter if ..], the one-line way -/
theorem ps_lc {wi : TI} {y : Str} {py spos : Pos} {i : Nat} {ps : List Str} (_S : FnScope N ps osc) (js : List Nat) (hn : X.N.Nodup) (hi' : X.N[i]? = some y) (hy : X.env.scope.names.lookup y = some .local) (hi : PI X (.Name x px) iter wi)
    (hin : ∀ cl C s H fp E, PIf (cxC X scope cl C (x :: capN N js) s H fp E) ifs tt ∧ PE (cxC X scope cl C (x :: capN N js) s H fp E) elt te)
    (hN : X.N = N := by rfl) (hsc : X.env.scope = osc := by rfl) (hcap : capOk N osc scope js = true := by decide +kernel) (hs1 : scOk osc scope x = true := by decide +kernel) (hnd : (x :: capN N js).Nodup := by decide +kernel) (hc : X.calm = true := by rfl)
    (hs : ∀ v, foldedSetIterable iter X.env v = pure v := by intro _; rfl)
    (hsw : swapsWith (.ListComp elt [⟨.Name x px, iter, ifs, 0⟩] scope pos) (some (.Name y py)) spos.line X.env = pure true := by rfl) :
    PS X (.Assign [.Name y py] (.ListComp elt [⟨.Name x px, iter, ifs, 0⟩] scope pos) spos) (tAsg (tLC wi js tt te) (gName i)) := by
  intro pins s σ H Dn I h
  obtain ⟨cl, hcl, cl1, cl2⟩ := closure_of (frees_of hs1 hsc I)
  rw [exec_Assign_Name_used _ _ _ _ hsw]
  refine wpAny_bind (wpAny_standAt (wpAny_bind ?_))
  show wpAny _ X.A (do let _ ← comprehension (.ListComp elt [⟨.Name x px, iter, ifs, 0⟩] scope pos) scope X.env _ (newList []) false (eval iter X.env) (some (assign (.Name y py) X.env))) _ _ s
  refine wpAny_bind (wpAny_mono (wpAny_comprehension_free (use := some (assign (.Name y py) X.env)) (Q := fun _ s' => SP X pins Dn .next s') rfl hs hcl (scOk.kind hs1) (scOk.names hs1)
    (thn (hi pins s σ H _ I h) fun v s1 h1 => thn h1 fun itv s2 h2 => ?_)) (fun _ s' hq => wpAny_pure (wpAny_pure hq)) fun _ _ e => e)
  obtain ⟨it, fp, tn, J, H2, e, I2, T, st2, f2, lp⟩ := h2
  subst e
  refine comp_core (RR := fun acc C => compPost (model X.prog X.w) X.A X.xe (some (assign (.Name y py) X.env)) (fun _ s' => SP X pins Dn .next s') acc C) hN hsc hcap hs1 hnd hc (hin cl) I2 T st2 f2 cl1 cl2 lp ?_
  intro D C ys H' s' q nD I' hm hL h0 hce hpi hfree
  show wpAny _ X.A (assign (.Name y py) X.env (.ref D)) _ _ _
  refine wpAny_assign_Name (store_ok2 (v := .ref D) I' hn hi' (.inl hy) rfl (fun s'' I'' hch => ?_) (.inr hy))
  obtain ⟨m, hm⟩ := hm
  obtain ⟨a, sb, ha⟩ := hch
  have hCa : C ≠ a := by
    rcases ha with z | z
    · rw [z]; exact hL
    · exact fun e => hce _ _ z e.symm
  exact ⟨m, hm.sameBut sb hCa, fun h' hs' => ⟨_, _, I''.turned (t' := s''.toks) (fun b o hb e => hs'.extBut b o hb e) hfree hL (.inr h0) hce hpi, q D nD⟩⟩
end
end L2

namespace L2
open PySem PySem.Spec PyProof.Rows

/-! ### isinstance -/
section
variable {X : Cx}
/-- a class as a value -/
inductive ClV : V → Value → Prop where
  | ty (n : String) : ClV (.ty n) (.type n)
  | ref (a : Addr) : ClV (.ref a) (.ref a)
theorem ClV.rel {c : V} {cv u : Value} (h : ClV c cv) (r : RelV c u) : u = cv := by
  cases h with
  | ty n => exact r
  | ref a => exact r
theorem call_isinst : CallR X (.builtin "isinstance") (fun xs H Q => ∃ x c t cv b, xs = [x, c] ∧ ClV c cv ∧ TyOf X.K H x t ∧ PySem.W.kitOne X.K t cv = some b ∧ Q (.bl b) H) := by
  intro pins s σ H xs us Q I r h
  obtain ⟨x, c, t, cv, b, rfl, hc, ht, he, q⟩ := h
  cases r with
  | cons r1 r' =>
    cases r' with
    | cons r2 r'' =>
      cases r''
      obtain rfl := hc.rel r2
      exact isinst_ok I r1 ht he fun tk => ⟨.bl b, H, I.tok tk, rfl, q⟩
/-- a tuple of classes: kitAny's answer, for what the text's own objects are -/
theorem isinst_tup {pins : List (Addr × Obj)} {σ : St} {H : Hp} {s : Shared} {A : Around} {E : Value → Shared → Prop} {Q : Value → Shared → Prop} {x : V} {u t : Value} {tp : Addr} {cs : List V} {cvs : List Value} {b : Bool}
    (I : Inv X pins σ H s) (rx : RelV x u) (ty : TyOf X.K H x t) (ht : H tp = some (.tup cs)) (hcs : Paired ClV cs cvs) (e : PySem.W.kitAny X.K t cvs = some b) (h : ∀ tk, Q (.bool b) { s with toks := tk }) :
    wpAny (model X.prog X.w) A (call (.builtin "isinstance") [u, .ref tp]) Q E s := by
  obtain ⟨_, its, rv, p⟩ := (show ObjOk X.prog X.w H s.heap tp (.tup cs) from I.hok tp _ ht)
  have eits : its = cvs := by
    have : ∀ {cs : List V} {its cvs : List Value}, Vals cs its → Paired ClV cs cvs → its = cvs := by
      intro cs
      induction cs with
      | nil => intro its cvs a b; cases a; cases b; rfl
      | cons c cs ih =>
        intro its cvs a b
        cases a with
        | cons a1 a2 =>
          cases b with
          | cons b1 b2 => rw [b1.rel a1, ih a2 b2]
    exact this rv hcs
  subst eits
  obtain ⟨⟨oc, od, odt, osl⟩, h1, h2, n, h3⟩ := p
  cases h2
  cases h3
  cases ty with
  | non => cases (show u = Value.none from rx); exact PySem.W.kia_tup PySem.W.kitx_none I.kIn True.intro h1 e (fun z => nomatch z) h
  | bl y => cases (show u = Value.bool y from rx); exact PySem.W.kia_tup PySem.W.kitx_bool I.kIn True.intro h1 e (fun z => nomatch z) h
  | int i => obtain ⟨t, q⟩ := (show ∃ t, u = Value.int i t from rx); cases q; exact PySem.W.kia_tup PySem.W.kitx_int I.kIn True.intro h1 e (fun z => nomatch z) h
  | str y => obtain ⟨t, q⟩ := (show ∃ t, u = Value.str y t from rx); cases q; exact PySem.W.kia_tup PySem.W.kitx_str I.kIn True.intro h1 e (fun z => nomatch z) h
  | flt y => obtain ⟨t, q⟩ := (show ∃ t, u = Value.float y t from rx); cases q; exact PySem.W.kia_tup PySem.W.kitx_float I.kIn True.intro h1 e (fun z => nomatch z) h
  | @lst a xs ea =>
    cases (show u = Value.ref a from rx)
    obtain ⟨_, _, n, _, h1'⟩ := (show ObjOk X.prog X.w H s.heap a (.lst xs) from I.hok a _ ea)
    exact PySem.W.kia_tup PySem.W.kitx_list I.kIn ⟨_, h1', rfl⟩ h1 e (fun z => nomatch z) h
  | @frz a ob xs ea =>
    cases (show u = Value.ref a from rx)
    obtain ⟨_, _, _, n, _, h1'⟩ := (show ObjOk X.prog X.w H s.heap a (.frz ob (.lst xs)) from I.hok a _ ea)
    exact PySem.W.kia_tup PySem.W.kitx_list I.kIn ⟨_, h1', rfl⟩ h1 e (fun z => nomatch z) h
  | @tup a xs ea =>
    cases (show u = Value.ref a from rx)
    obtain ⟨_, _, _, p⟩ := (show ObjOk X.prog X.w H s.heap a (.tup xs) from I.hok a _ ea)
    obtain ⟨o, h1', h2, _⟩ := p
    exact PySem.W.kia_tup PySem.W.kitx_tuple I.kIn ⟨o, h1', h2⟩ h1 e (fun z => nomatch z) h
  | @dK a kvs ea =>
    cases (show u = Value.ref a from rx)
    obtain ⟨_, _, vs, _, p⟩ := (show ObjOk X.prog X.w H s.heap a (.dK kvs) from I.hok a _ ea)
    obtain ⟨o, es, ep, h1', h2, _⟩ := p
    exact PySem.W.kia_tup PySem.W.kitx_dict I.kIn ⟨o, h1', h2.1⟩ h1 e (fun z => nomatch z) h
  | @dT a kvs ea =>
    cases (show u = Value.ref a from rx)
    obtain ⟨_, _, xs, _, o, es, ep, h1', h2, _⟩ := (show ObjOk X.prog X.w H s.heap a (.dT kvs) from I.hok a _ ea)
    exact PySem.W.kia_tup PySem.W.kitx_dict I.kIn ⟨o, h1', h2.1⟩ h1 e (fun z => nomatch z) h
  | @ins a C dx fs ea cl ha hn htk hm =>
    cases (show u = Value.ref a from rx)
    obtain ⟨mA, O, _⟩ := ins_get I.hok ea
    obtain ⟨od, J, _⟩ := O.look
    exact PySem.W.kia_tup (PySem.W.kitx_own (cl.get _) cl.hd ha hn htk hm) I.kIn J h1 e (fun z => nomatch z) h
theorem call_isinstT : CallR X (.builtin "isinstance") (fun xs H Q => ∃ x tp cs t cvs b, xs = [x, .ref tp] ∧ H tp = some (.tup cs) ∧ Paired ClV cs cvs ∧ TyOf X.K H x t ∧ PySem.W.kitAny X.K t cvs = some b ∧ Q (.bl b) H) := by
  intro pins s σ H xs us Q I r h
  obtain ⟨x, tp, cs, t, cvs, b, rfl, htp, hcs, ht, he, q⟩ := h
  cases r with
  | cons r1 r' =>
    cases r' with
    | cons r2 r'' =>
      cases r''
      cases r2
      exact isinst_tup I r1 ht htp hcs he fun tk => ⟨.bl b, H, I.tok tk, rfl, q⟩
end

/-! ### == and != of lists and tuples, by what they stand for -/
/-- what == of two values says, at every heap that H describes -/
def EqD (X : Cx) (H : Hp) (d : Nat) (x y : V) (b : Bool) : Prop :=
  ∀ (A : Around) (s : Shared) (pins : List (Addr × Obj)) (σ : St) (u v : Value), Inv X pins σ H s → A.units + d < cLine → RelV x u → RelV y v → SeqAt.EqAt A s u v b
def RcD (X : Cx) (H : Hp) (d : Nat) (x y : V) (b : Bool) : Prop :=
  ∀ (A : Around) (s : Shared) (pins : List (Addr × Obj)) (σ : St) (u v : Value), Inv X pins σ H s → A.units + d < cLine → RelV x u → RelV y v → SeqAt.RcAt A s u v b ∧ SeqAt.RcNeAt A s u v (!b)
/-- R reads data off a value; two values are equal just if their data are -/
structure EqR (X : Cx) (H : Hp) (d : Nat) {α : Type} [DecidableEq α] (R : V → α → Prop) : Prop where
  eq : ∀ x y a b, R x a → R y b → EqD X H d x y (decide (a = b))
  rc : ∀ x y a b, R x a → R y b → RcD X H d x y (decide (a = b))
  one : ∀ x a b, R x a → R x b → (∃ pins σ s, Inv X pins σ H s) → a = b
section
variable {X : Cx} {H : Hp} {d : Nat}
def isI : V → Int → Prop := fun v i => v = .int i
def isS : V → Str → Prop := fun v i => v = .str i
theorem EqR.int : EqR X H d isI := ⟨fun x y a b ha hb A s pins σ u v I hu ru rv => by
    cases ha; cases hb
    obtain ⟨t, rfl⟩ := ru
    obtain ⟨t', rfl⟩ := rv
    rw [show decide (a = b) = (a == b) from rfl]
    exact SeqAt.EqAt.int_int a t b t', fun x y a b ha hb A s pins σ u v I hu ru rv => by
    cases ha; cases hb
    obtain ⟨t, rfl⟩ := ru
    obtain ⟨t', rfl⟩ := rv
    rw [show decide (a = b) = (a == b) from rfl]
    exact ⟨SeqAt.RcAt.int_int a t b t', SeqAt.RcNeAt.int_int a t b t'⟩, fun x a b ha hb _ => by cases ha; cases hb; rfl⟩
theorem dec_beq_str (a b : Str) : decide (a = b) = (a == b) := by
  rw [Bool.eq_iff_iff]; simp
theorem EqR.str : EqR X H d isS := ⟨fun x y a b ha hb A s pins σ u v I hu ru rv => by
    cases ha; cases hb
    obtain ⟨t, rfl⟩ := ru
    obtain ⟨t', rfl⟩ := rv
    rw [dec_beq_str]
    exact SeqAt.EqAt.str_str a t b t', fun x y a b ha hb A s pins σ u v I hu ru rv => by
    cases ha; cases hb
    obtain ⟨t, rfl⟩ := ru
    obtain ⟨t', rfl⟩ := rv
    rw [dec_beq_str]
    exact ⟨SeqAt.RcAt.str_str a t b t', SeqAt.RcNeAt.str_str a t b t'⟩, fun x a b ha hb _ => by cases ha; cases hb; rfl⟩
variable {α : Type} [DecidableEq α] {R : V → α → Prop}
/-- a tuple, a list of what R reads -/
def isT (K : PySem.W.Frag) (H : Hp) (R : V → α → Prop) : V → List α → Prop := fun v as => ∃ a xs, v = .ref a ∧ SqT K H a xs ∧ Paired R xs as
def isL (K : PySem.W.Frag) (H : Hp) (R : V → α → Prop) : V → List α → Prop := fun v as => ∃ a xs, v = .ref a ∧ SqL K H a xs ∧ Paired R xs as
theorem Paired.get {β γ : Type} {F : β → γ → Prop} : ∀ {xs : List β} {ys : List γ} {i : Nat} {x : β}, Paired F xs ys → xs[i]? = some x → ∃ y, ys[i]? = some y ∧ F x y
  | _, _, _, _, .nil, e => by simp at e
  | _, _, 0, _, .cons r _, e => by simp at e; subst e; exact ⟨_, rfl, r⟩
  | _, _, i + 1, x, .cons _ t, e => by
    obtain ⟨u, h1, h2⟩ := Paired.get (i := i) (x := x) t (by simpa using e)
    exact ⟨u, by simpa using h1, h2⟩
theorem paired_one {X : Cx} {H : Hp} {d : Nat} (h : EqR X H d R) (I : ∃ pins σ s, Inv X pins σ H s) : ∀ {xs : List V} {as bs : List α}, Paired R xs as → Paired R xs bs → as = bs
  | _, _, _, .nil, .nil => rfl
  | _, _, _, .cons r t, .cons r' t' => by rw [h.one _ _ _ r r' I, paired_one h I t t']
theorem all_range_eq {as bs : List α} (hl : as.length = bs.length) : (List.range as.length).all (fun j => decide (as[j]? = bs[j]?)) = decide (as = bs) := by
  rw [Bool.eq_iff_iff, List.all_eq_true, decide_eq_true_iff]
  constructor
  · intro h
    apply List.ext_getElem? 
    intro j
    by_cases hj : j < as.length
    · exact of_decide_eq_true (h j (List.mem_range.mpr hj))
    · rw [List.getElem?_eq_none_iff.mpr (by omega), List.getElem?_eq_none_iff.mpr (by omega)]
  · intro h j _
    rw [h]; simp
theorem EqR.tup (h : EqR X H d R) : EqR X H (d + 1) (isT X.K H R) := by
  have rc : ∀ x y a b, isT X.K H R x a → isT X.K H R y b → RcD X H (d + 1) x y (decide (a = b)) := by
    rintro x y as bs ⟨a, xs, rfl, hx, pa⟩ ⟨b, ys, rfl, hy, pb⟩ A s pins σ u v I hu ru rv
    cases ru; cases rv
    obtain ⟨its, r1, t1, _⟩ := I.tuple hx
    obtain ⟨jts, r2, t2, _⟩ := I.tuple hy
    have l1 := r1.length
    have l2 := r2.length
    have l3 := pa.length
    have l4 := pb.length
    have hu1 : A.units < cLine := by omega
    have he : ∀ j (h1 : j < its.toArray.size) (h2 : j < jts.toArray.size), SeqAt.EqAt A.in1 s its.toArray[j] jts.toArray[j] (decide (as[j]? = bs[j]?)) := fun j h1 h2 => by
      simp only [List.size_toArray] at h1 h2
      obtain ⟨xv, ex⟩ : ∃ xv, xs[j]? = some xv := ⟨xs[j]'(by omega), List.getElem?_eq_getElem (by omega)⟩
      obtain ⟨yv, ey⟩ : ∃ yv, ys[j]? = some yv := ⟨ys[j]'(by omega), List.getElem?_eq_getElem (by omega)⟩
      obtain ⟨u1, q1, w1⟩ := r1.get ex
      obtain ⟨u2, q2, w2⟩ := r2.get ey
      obtain ⟨a1, p1, z1⟩ := Paired.get pa ex
      obtain ⟨a2, p2, z2⟩ := Paired.get pb ey
      have g1 : its.toArray[j]'(by simpa using h1) = u1 := by
        have := List.getElem?_eq_some_iff.mp q1
        simpa using this.2
      have g2 : jts.toArray[j]'(by simpa using h2) = u2 := by
        have := List.getElem?_eq_some_iff.mp q2
        simpa using this.2
      rw [g1, g2, p1, p2]
      have := h.eq xv yv a1 a2 z1 z2 A.in1 s pins σ u1 u2 I (by show A.units + 1 + d < cLine; omega) w1 w2
      rw [show decide (some a1 = some a2) = decide (a1 = a2) by simp]
      exact this
    have hb : ((List.range (min its.toArray.size jts.toArray.size)).all (fun j => decide (as[j]? = bs[j]?)) && its.toArray.size == jts.toArray.size) = decide (as = bs) := by
      simp only [List.size_toArray]
      by_cases hl : as.length = bs.length
      · have e1 : its.length = jts.length := by omega
        have e2 : min its.length jts.length = as.length := by omega
        rw [e2, all_range_eq hl, e1]; simp
      · have : (its.length == jts.length) = false := by simp; omega
        rw [this, Bool.and_false]
        exact (decide_eq_false fun e => hl (by rw [e])).symm
    have z1 := SeqAt.RcAt.tuples (A := A) (s := s) t1 t2 hu1 he
    have z2 := SeqAt.RcNeAt.tuples (A := A) (s := s) t1 t2 hu1 he
    rw [hb] at z1 z2
    exact ⟨z1, z2⟩
  refine ⟨?_, rc, ?_⟩
  · rintro x y as bs hx hy A s pins σ u v I hu ru rv
    obtain ⟨a, xs, rfl, hx', pa⟩ := id hx
    obtain ⟨b, ys, rfl, hy', pb⟩ := id hy
    cases ru; cases rv
    by_cases e : a = b
    · subst e
      have : xs = ys := I.tuple_inj hx' hy'
      subst this
      rw [paired_one h ⟨pins, σ, s, I⟩ pa pb, decide_eq_true rfl]
      exact SeqAt.EqAt.same _
    · exact SeqAt.EqAt.of_refs e (rc _ _ as bs hx hy A s pins σ _ _ I hu rfl rfl).1
  · rintro x as bs ⟨a, xs, rfl, hx, pa⟩ ⟨b, ys, e, hy, pb⟩ ⟨pins, σ, s, I⟩
    cases e
    have : xs = ys := I.tuple_inj hx hy
    subst this
    exact paired_one h ⟨pins, σ, s, I⟩ pa pb
theorem EqR.lst (h : EqR X H d R) : EqR X H (d + 1) (isL X.K H R) := by
  have rc : ∀ x y a b, isL X.K H R x a → isL X.K H R y b → RcD X H (d + 1) x y (decide (a = b)) := by
    rintro x y as bs ⟨a, xs, rfl, hx, pa⟩ ⟨b, ys, rfl, hy, pb⟩ A s pins σ u v I hu ru rv
    cases ru; cases rv
    obtain ⟨its, r1, t1, _⟩ := I.list hx
    obtain ⟨jts, r2, t2, _⟩ := I.list hy
    have l1 := r1.length
    have l2 := r2.length
    have l3 := pa.length
    have l4 := pb.length
    have hu1 : A.units < cLine := by omega
    by_cases hl : as.length = bs.length
    · have he : ∀ j (h1 : j < its.toArray.size) (h2 : j < jts.toArray.size), SeqAt.EqAt A.in1 s its.toArray[j] jts.toArray[j] (decide (as[j]? = bs[j]?)) := fun j h1 h2 => by
        simp only [List.size_toArray] at h1 h2
        obtain ⟨xv, ex⟩ : ∃ xv, xs[j]? = some xv := ⟨xs[j]'(by omega), List.getElem?_eq_getElem (by omega)⟩
        obtain ⟨yv, ey⟩ : ∃ yv, ys[j]? = some yv := ⟨ys[j]'(by omega), List.getElem?_eq_getElem (by omega)⟩
        obtain ⟨u1, q1, w1⟩ := r1.get ex
        obtain ⟨u2, q2, w2⟩ := r2.get ey
        obtain ⟨a1, p1, z1⟩ := Paired.get pa ex
        obtain ⟨a2, p2, z2⟩ := Paired.get pb ey
        have g1 : its.toArray[j]'(by simpa using h1) = u1 := by
          have := List.getElem?_eq_some_iff.mp q1
          simpa using this.2
        have g2 : jts.toArray[j]'(by simpa using h2) = u2 := by
          have := List.getElem?_eq_some_iff.mp q2
          simpa using this.2
        rw [g1, g2, p1, p2]
        have := h.eq xv yv a1 a2 z1 z2 A.in1 s pins σ u1 u2 I (by show A.units + 1 + d < cLine; omega) w1 w2
        rw [show decide (some a1 = some a2) = decide (a1 = a2) by simp]
        exact this
      have hsz : its.toArray.size = jts.toArray.size := by simp; omega
      have hb : (List.range its.toArray.size).all (fun j => decide (as[j]? = bs[j]?)) = decide (as = bs) := by
        simp only [List.size_toArray]
        rw [show its.length = as.length by omega, all_range_eq hl]
      have z1 := SeqAt.RcAt.lists (A := A) (s := s) t1.isList t2.isList hsz hu1 he
      have z2 := SeqAt.RcNeAt.lists (A := A) (s := s) t1.isList t2.isList hsz hu1 he
      rw [hb] at z1 z2
      exact ⟨z1, z2⟩
    · have hsz : (its.toArray.size != jts.toArray.size) = true := by simp; omega
      rw [decide_eq_false fun e => hl (by rw [e])]
      exact ⟨SeqAt.RcAt.lists_lengths t1.isList t2.isList hsz hu1, SeqAt.RcNeAt.lists_lengths t1.isList t2.isList hsz hu1⟩
  refine ⟨?_, rc, ?_⟩
  · rintro x y as bs hx hy A s pins σ u v I hu ru rv
    obtain ⟨a, xs, rfl, hx', pa⟩ := id hx
    obtain ⟨b, ys, rfl, hy', pb⟩ := id hy
    cases ru; cases rv
    by_cases e : a = b
    · subst e
      have : xs = ys := I.list_inj hx' hy'
      subst this
      rw [paired_one h ⟨pins, σ, s, I⟩ pa pb, decide_eq_true rfl]
      exact SeqAt.EqAt.same _
    · exact SeqAt.EqAt.of_refs e (rc _ _ as bs hx hy A s pins σ _ _ I hu rfl rfl).1
  · rintro x as bs ⟨a, xs, rfl, hx, pa⟩ ⟨b, ys, e, hy, pb⟩ ⟨pins, σ, s, I⟩
    cases e
    have : xs = ys := I.list_inj hx hy
    subst this
    exact paired_one h ⟨pins, σ, s, I⟩ pa pb
def rNeD (X : Cx) : R2 := fun x y H Q => ∃ b, RcD X H 20 x y b ∧ Q (.bl (!b)) H
theorem op_neD (hu : X.A.units + 20 < cLine) : OpR X (compareOp .NotEq) (rNeD X) := by
  intro pins s σ H x y v u Q I rx ry h
  obtain ⟨b, hb, q⟩ := h
  exact (hb X.A s pins σ v u I hu rx ry).2 X.prog X.w X.xe _ ⟨.bl (!b), H, I, rfl, q⟩
/-- x in a list or tuple of what R reads -/
def rInD (X : Cx) (neg : Bool) : R2 := fun x y H Q => ∃ (α : Type) (_ : DecidableEq α) (R : V → α → Prop) (p : Addr) (xs : List V) (as : List α) (a : α), y = .ref p ∧ EqR X H 19 R ∧ (SqL X.K H p xs ∨ SqT X.K H p xs) ∧ Paired R xs as ∧ R x a ∧ Q (.bl (if neg then !decide (a ∈ as) else decide (a ∈ as))) H
open Classical in
theorem in_any {β : Type} [DecidableEq β] {F : V → β → Prop} {a : β} : ∀ {xs : List V} {us : List Value} {as : List β}, Vals xs us → Paired F xs as → (∀ x c c', F x c → F x c' → c = c') → us.any (fun u => decide (∃ x c, RelV x u ∧ F x c ∧ c = a)) = decide (a ∈ as)
  | _, _, _, .nil, .nil, _ => by simp
  | _, _, _, .cons r t, .cons f p, h => by
    rw [List.any_cons, in_any t p h]
    rw [Bool.eq_iff_iff]
    simp only [Bool.or_eq_true, decide_eq_true_eq, List.mem_cons]
    constructor
    · rintro (⟨x, c, rx, fx, rfl⟩ | z)
      · have := r.inj rx
        subst this
        exact .inl (h _ _ _ fx f)
      · exact .inr z
    · rintro (rfl | z)
      · exact .inl ⟨_, _, r, f, rfl⟩
      · exact .inr z
open Classical in
theorem mem_eqR {X : Cx} {H : Hp} {β : Type} [DecidableEq β] {R : V → β → Prop} (h : EqR X H 19 R) {A : Around} {s : Shared} {pins : List (Addr × Obj)} {σ : St} (I : Inv X pins σ H s) (hu : A.units + 20 < cLine) {x : V} {v : Value} {a : β} (rx : RelV x v) (fx : R x a) :
    ∀ {xs : List V} {us : List Value} {as : List β}, Vals xs us → Paired R xs as → ∀ u ∈ us, SeqAt.EqAt A.in1 s u v (decide (∃ x c, RelV x u ∧ R x c ∧ c = a))
  | _, _, _, .nil, .nil => fun u hu => by cases hu
  | _, _, _, .cons (a := y) r t, .cons (b := c) f p => fun u' hu' => by
    rcases List.mem_cons.mp hu' with rfl | hu'
    · have := h.eq y x c a f fx A.in1 s pins σ _ v I (by show A.units + 1 + 19 < cLine; omega) r rx
      have e : decide (c = a) = decide (∃ x c, RelV x u' ∧ R x c ∧ c = a) := by
        rw [Bool.eq_iff_iff]
        simp only [decide_eq_true_eq]
        constructor
        · intro e; exact ⟨y, c, r, f, e⟩
        · rintro ⟨x', c', r', f', rfl⟩
          have := r.inj r'
          subst this
          exact h.one _ _ _ f f' ⟨pins, σ, s, I⟩
      rw [← e]; exact this
    · exact mem_eqR h I hu rx fx t p u' hu'
theorem op_inD (hu : X.A.units + 20 < cLine) : OpR X (compareOp .In) (rInD X false) := by
  intro pins s σ H x y v u Q I rx ry h
  obtain ⟨α, _, R, p, xs, as, a, rfl, hR, hs, pa, ra, q⟩ := h
  cases ry
  have one : ∀ x c c', R x c → R x c' → c = c' := fun x c c' h1 h2 => hR.one x c c' h1 h2 ⟨pins, σ, s, I⟩
  rcases hs with hs | hs
  · obtain ⟨its, r, pl, _⟩ := I.list hs
    refine SeqAt.in_listAt _ pl.isList (fun w hw => mem_eqR hR I hu rx ra r pa w (by simpa using hw)) ⟨.bl _, H, I, rfl, ?_⟩
    simp only [List.any_toArray, in_any r pa one]
    simpa using q
  · obtain ⟨its, r, pl, _⟩ := I.tuple hs
    refine SeqAt.in_tupleAt _ pl (fun w hw => mem_eqR hR I hu rx ra r pa w (by simpa using hw)) ⟨.bl _, H, I, rfl, ?_⟩
    simp only [List.any_toArray, in_any r pa one]
    simpa using q
end
end L2

namespace L2
open PySem PySem.Spec PyProof.Rows
section
variable {X : Cx} {pins : List (Addr × Obj)} {σ : St} {H : Hp} {s : Shared} {h' : Heap}
end

/-! ### for a, b in zip(l, m) of two lists -/

/-! ### the comprehension's forms -/
theorem lc_range {lo : Int} {n : Nat} {cap : St} {tt : TT} {te : TE} {H : Hp} {P : List V → Hp → Prop} (Pv : Nat → List V → Hp → Prop) (h0 : Pv 0 [] H) (hn : n < sizeLine) (hb : ∀ i ys H, Pv i ys H → ys.length ≤ i)
    (hs : ∀ i ys H, i < n → Pv i ys H → tt (some (.int (lo + i)) :: cap) H fun b H3 => if b = true then te (some (.int (lo + i)) :: cap) H3 fun v H4 => Pv (i + 1) (ys ++ [v]) H4 else Pv (i + 1) ys H3) (hd : ∀ ys H, Pv n ys H → P ys H) :
    LcLoop (Itr lo n) cap tt te H P := by
  refine ⟨fun i m ys H => m = n - i ∧ i ≤ n ∧ Pv i ys H, ⟨n, by simp, Nat.zero_le _, h0⟩, ?_⟩
  rintro i m ys H ⟨rfl, hi, p⟩
  have hl := hb i ys H p
  by_cases hlt : i < n
  · refine .inr ⟨hlt, by omega, Pv (i + 1), fun σ' H' p' => ⟨n - (i + 1), by omega, rfl, hlt, p'⟩, fun x H' y => ?_⟩
    obtain ⟨e, y⟩ := y
    subst e y
    exact hs i ys _ hlt p
  · have e : i = n := by omega
    subst e
    exact .inl ⟨Nat.le_refl _, by omega, hd ys H p⟩
theorem lc_list {K : PySem.W.Frag} {a : Addr} {xs : List V} {cap : St} {tt : TT} {te : TE} {H : Hp} {P : List V → Hp → Prop} (Pv : Nat → List V → Hp → Prop) (h0 : Pv 0 [] H) (hn : xs.length < sizeLine) (hb : ∀ i ys H, Pv i ys H → ys.length ≤ i) (hl : ∀ i ys H, i ≤ xs.length → Pv i ys H → SqL K H a xs)
    (hs : ∀ i x ys H, xs[i]? = some x → Pv i ys H → tt (some x :: cap) H fun b H3 => if b = true then te (some x :: cap) H3 fun v H4 => Pv (i + 1) (ys ++ [v]) H4 else Pv (i + 1) ys H3) (hd : ∀ ys H, Pv xs.length ys H → P ys H) :
    LcLoop (Itl K a) cap tt te H P := by
  refine ⟨fun i m ys H => m = xs.length - i ∧ i ≤ xs.length ∧ Pv i ys H, ⟨xs.length, by simp, Nat.zero_le _, h0⟩, ?_⟩
  rintro i m ys H ⟨rfl, hi, p⟩
  have hyl := hb i ys H p
  have q := hl i ys H hi p
  by_cases hlt : i < xs.length
  · refine .inr ⟨⟨xs, xs[i], q, by simp [hlt]⟩, by omega, Pv (i + 1), fun σ' H' p' => ⟨xs.length - (i + 1), by omega, rfl, hlt, p'⟩, fun x H' y => ?_⟩
    obtain ⟨e, y⟩ := y
    subst e
    exact hs i x ys _ (y xs q) p
  · have e : i = xs.length := by omega
    subst e
    exact .inl ⟨⟨xs, q, Nat.le_refl _⟩, by omega, hd ys H p⟩

/-! ### defs, methods, classes in one piece -/
section
variable (P : Program) (w : World) (K : PySem.W.Frag) (mg : Str → Option Value) (base : Heap) (k : Nat)
def FnB (x : Str) (ps : List Str) (sp : Sp) : Prop := ∃ f fd, FnOk P w K mg base CX0 k f fd ps sp ∧ mg x = some (.ref f) ∧ PySem.W.keepIn K (.ref f) = true ∧ Binds K fd ps []
def MeB (C : Addr) (m : Str) (ps : List Str) (sp : Sp) : Prop := ∃ f fd, FnOk P w K mg base CX0 k f fd ps sp ∧ Meth K C m f ∧ Binds K fd ps [] ∧ Cls K C
def MkB (x : Str) (C : Addr) (ps : List Str) (sp : Sp) : Prop := ∃ f fd, FnOk P w K mg base CX0 k f fd ps sp ∧ mg x = some (.ref C) ∧ Mk K C f ∧ Binds K fd ps []
end
section
variable {X : Cx} {k : Nat} {x m : Str} {C : Addr} {ps : List Str} {sp : Sp} {p pos apos : Pos} {e o : Expr} {es : List Expr} {ta : TE} {t : TA}
theorem pe_fn (F : FnB X.prog X.w X.K X.mg X.base k x ps sp) (hr : Room k X.A) (ha : PA X (e :: es) t) (hg : Gl X x := by rfl) (hdb : (x == ("__debug__" : Str)) = false := by decide) (he : starEach (e :: es) X.env = (false, eval e X.env) :: starEach es X.env := by rfl) (hpl : (backTo pos (starEach es X.env)).any (·.1) = false := by rfl) :
    PE X (.Call (.Name x p) (e :: es) [] pos) (tCall sp [] E0 t) := by
  obtain ⟨f, fd, F, hm, hk, hb⟩ := F
  exact pe_call F hr hg hm hk hb .nil pass0 ha hdb he hpl
theorem pe_fn0 (F : FnB X.prog X.w X.K X.mg X.base k x ps sp) (hr : Room k X.A) (hg : Gl X x := by rfl) (hdb : (x == ("__debug__" : Str)) = false := by decide) : PE X (.Call (.Name x p) [] [] pos) (tCall sp [] E0 tNil) := by
  obtain ⟨f, fd, F, hm, hk, hb⟩ := F
  exact pe_call0 F hr hg hm hk hb .nil pass0 hdb
theorem pe_me0 {pl : Sem Bool} (M : MeB X.prog X.w X.K X.mg X.base k C m ps sp) (he : PE X o ta) (hr : Room k X.A)
    (ht : eval (.Call (.Attribute o m apos) [] [] pos) X.env = (do
      let ov ← eval o X.env
      standAt apos.atName
      let (f, first) ← holding [ov] (getMethod ov m pl)
      callWith pos f first (backTo pos (starEach [] X.env)) (backToKw pos (keywordEach [] X.env))) := by rfl) :
    PE X (.Call (.Attribute o m apos) [] [] pos) (tMeth C m sp [] E0 ta tNil) := by
  obtain ⟨f, fd, F, hm, hb, hc⟩ := M
  exact pe_meth0 he hc hm F hr hb .nil pass0 ht
theorem pe_mk (M : MkB X.prog X.w X.K X.mg X.base k x C ps sp) (hr : Room (k + 1) X.A) (ha : PA X (e :: es) t) (hg : Gl X x := by rfl) (hdb : (x == ("__debug__" : Str)) = false := by decide) (he : starEach (e :: es) X.env = (false, eval e X.env) :: starEach es X.env := by rfl) (hpl : (backTo pos (starEach es X.env)).any (·.1) = false := by rfl) :
    PE X (.Call (.Name x p) (e :: es) [] pos) (tMake C sp [] E0 t) := by
  obtain ⟨f, fd, F, hm, hM, hb⟩ := M
  exact pe_make hM F hr hg hm hb .nil pass0 ha hdb he hpl
end
theorem Room.u20 {k : Nat} {A : Around} (r : Room k A) : A.units + 20 < cLine := by have := r.un; omega
theorem Same.new {H : Hp} {a : Addr} {o : HO} (h : H a = none) : Same H (upd H a o) := fun b u e => by rw [upd_ne (ne_of_none e h)]; exact e
theorem Same.lay {H H' : Hp} {a : Addr} {o : HO} (s : Same H H') (h : H' a = none) : Same H (upd H' a o) := s.trans (Same.new h)
/-- an object that was not there is changed -/
theorem Same.put {H H' : Hp} {a : Addr} {o : HO} (s : Same H H') (h : H a = none) : Same H (upd H' a o) := fun b u e => by rw [upd_ne (ne_of_none e h)]; exact s b u e

end L2

namespace L2
open PySem PySem.Spec PyProof.Rows
section
variable {X : Cx} {k : Nat} {x m : Str} {ps : List Str} {sp : Sp} {p pos apos : Pos} {e o : Expr} {es : List Expr} {ta : TE} {t : TA}
end
/-! ### texts -/
theorem vals_strs : ∀ {ss : List Str} {us : List Value}, Vals (ss.map V.str) us → StrsAre us ss
  | [], us, r => by cases r; exact .nil
  | x :: ss, us, r => by
    cases r with
    | cons r rr =>
      obtain ⟨t, rfl⟩ := r
      exact .cons _ _ (vals_strs rr)
section
variable {X : Cx}
def rJoin (K : PySem.W.Frag) : V → List V → Hp → VK → Prop := fun x vs H Q => ∃ sep l ss, x = .str sep ∧ vs = [.ref l] ∧ SqL K H l (ss.map V.str) ∧ (ss.map (·.length)).sum + ss.length * sep.length ≤ 16777216 ∧ Q (.str (Txt.join sep ss)) H
theorem mt_join : MtR X "str.join" (rJoin X.K) := by
  intro pins s σ H x vs v us Q I rx rv h
  obtain ⟨sep, l, ss, rfl, rfl, hl, hz, q⟩ := h
  obtain ⟨t, rfl⟩ := rx
  obtain ⟨u, rfl, ru⟩ := rv.one
  cases ru
  obtain ⟨its, r, pl, _⟩ := I.list hl
  exact join_list pl.isList (by simpa using vals_strs r) hz fun t' k => ⟨.str _, H, I.tok k, ⟨t', rfl⟩, q⟩
def rSplit : V → List V → Hp → VK → Prop := fun x vs H Q => ∃ z sep, x = .str z ∧ vs = [.str sep] ∧ (sep.length == 0) = false ∧ z.length ≤ sizeLine ∧ (Txt.split z sep).length ≤ sizeLine ∧ ∀ l, H l = none → Q (.ref l) (upd H l (.lst ((Txt.split z sep).map V.str)))
theorem vals_strsFrom : ∀ (ss : List Str) (t : Nat), Vals (ss.map V.str) (strsFrom t ss)
  | [], _ => .nil
  | x :: ss, t => .cons ⟨t, rfl⟩ (vals_strsFrom ss (t + 1))
open Builtin Builtin.Str in
theorem mt_split : MtR X "str.split" rSplit := by
  intro pins s σ H x vs v us Q I rx rv h
  obtain ⟨z, y, rfl, rfl, hy, hz, hn, q⟩ := h
  obtain ⟨t, rfl⟩ := rx
  obtain ⟨_, rfl, u, rfl⟩ := rv.one
  cases h1 : (decide (z.length < y.length) || decide (strKind z < strKind y))
  · cases hf : (occurrences z y 0 z.length (z.length + 1)).isEmpty
    · have e : Txt.split z y = partsBetween z (occurrences z y 0 z.length (z.length + 1)) y.length := (if_neg (ne_true_of_eq_false h1)).trans (if_neg (ne_true_of_eq_false hf))
      rw [e] at hn q
      refine call_meets F.slot_str_split (typeIs_str _ _ _) F.entry_str_split (F.args_str_split_2 _ _) (meets_str_split_sep z y t u h1 hy hf hz hn) ?_
      exact ⟨.ref s.heap.objs.size, _, I.lnew (vals_strsFrom _ _) (by rw [List.length_map]; exact hn), rfl, q _ I.fresh⟩
    · have e : Txt.split z y = [z] := (if_neg (ne_true_of_eq_false h1)).trans (if_pos hf)
      rw [e] at q
      refine call_meets F.slot_str_split (typeIs_str _ _ _) F.entry_str_split (F.args_str_split_2 _ _) (meets_str_split_not_found z y t u h1 hy hf) ?_
      exact ⟨.ref s.heap.objs.size, _, I.lnew (t' := s.toks) (ys := [.str z]) (.cons ⟨t, rfl⟩ .nil) (by show 1 ≤ sizeLine; decide), rfl, q _ I.fresh⟩
  · have e : Txt.split z y = [z] := if_pos h1
    rw [e] at q
    refine call_meets F.slot_str_split (typeIs_str _ _ _) F.entry_str_split (F.args_str_split_2 _ _) (meets_str_split_cannot_occur z y t u h1) ?_
    exact ⟨.ref s.heap.objs.size, _, I.lnew (t' := s.toks) (ys := [.str z]) (.cons ⟨t, rfl⟩ .nil) (by show 1 ≤ sizeLine; decide), rfl, q _ I.fresh⟩
theorem call_int_str : CallR X (.type "int") (fun xs H Q => ∃ x n, xs = [.str x] ∧ PySem.intText? x = some n ∧ x.length ≤ 640 ∧ Q (.int n) H) := by
  intro pins s σ H xs us Q I r h
  obtain ⟨x, n, rfl, hn, hl, q⟩ := h
  obtain ⟨u, rfl, t, rfl⟩ := vals1 r
  exact PySem.W.KIN.call_text hn hl ⟨.int n, H, I.tok _, ⟨_, rfl⟩, q⟩
end

theorem for_rangeN {n : Nat} {g : TG} {tb : TS} {D : Ends} {σ : St} {H : Hp} (Pv : Nat → St → Hp → Prop) (h0 : Pv 0 σ H)
    (hs : ∀ (i : Nat) σ H, i < n → Pv i σ H → g (.int (i : Int)) σ H fun σ2 H2 => tb { D with nx := Pv (i + 1), ct := Pv (i + 1), bk := D.nx } σ2 H2) (hd : ∀ σ H, Pv n σ H → D.nx σ H) :
    ∃ W : Nat → Nat → St → Hp → Prop, (∃ m, W 0 m σ H) ∧ ∀ i m σ H, W i m σ H →
      ((Itr 0 n).stop i H ∧ D.nx σ H) ∨ ((Itr 0 n).go i H ∧ ∃ N : St → Hp → Prop, (∀ σ' H', N σ' H' → ∃ m', m' < m ∧ W (i + 1) m' σ' H') ∧ ∀ x H', (Itr 0 n).yld i H x H' → g x σ H' fun σ2 H2 => tb { D with nx := N, ct := N, bk := D.nx } σ2 H2) :=
  for_range (lo := 0) (n := n) Pv h0 (fun i σ H hi p => by rw [Int.zero_add]; exact hs i σ H hi p) hd
theorem lc_rangeN {n : Nat} {cap : St} {tt : TT} {te : TE} {H : Hp} {P : List V → Hp → Prop} (Pv : Nat → List V → Hp → Prop) (h0 : Pv 0 [] H) (hn : n < sizeLine) (hb : ∀ i ys H, Pv i ys H → ys.length ≤ i)
    (hs : ∀ (i : Nat) ys H, i < n → Pv i ys H → tt (some (.int (i : Int)) :: cap) H fun b H3 => if b = true then te (some (.int (i : Int)) :: cap) H3 fun v H4 => Pv (i + 1) (ys ++ [v]) H4 else Pv (i + 1) ys H3) (hd : ∀ ys H, Pv n ys H → P ys H) :
    LcLoop (Itr 0 n) cap tt te H P := lc_range (lo := 0) (n := n) Pv h0 hn hb (fun i ys H hi p => by rw [Int.zero_add]; exact hs i ys H hi p) hd
section
variable {X : Cx} {a e : Expr} {ta te : TE} {apos cpos : Pos}
/-- xs.append(e), xs.extend(e) -/
theorem pe_append (ha : PE X a ta) (he : PE X e te) (hbase : attributeBase a "append" X.env (eval a X.env) = eval a X.env := by rfl)
    (hfew : ((backTo cpos (starEach [e] X.env)).all (fun x => !x.1) && (backToKw cpos (keywordEach [] X.env)).all (fun x => x.1.isSome)
      && decide (([e] : List Expr).length + ([] : List Keyword).length + (if ([] : List Keyword).isEmpty then 0 else 1) < 30)) = true := by rfl)
    (hline : (apos.endLine == cpos.line) = true := by rfl) (hs : starEach [e] X.env = (false, eval e X.env) :: starEach [] X.env := by rfl) (hplain : (backTo cpos (starEach [] X.env)).any (·.1) = false := by rfl) :
    PE X (.Call (.Attribute a "append" apos) [e] [] cpos) (tBM X.K "list" rAppend ta (tCons te tNil)) :=
  pe_bm PySem.F.plainAttrs_list PySem.F.slot_list_append PySem.F.type_list_append mt_append ha (pa_cons he pa_nil hs) hbase hfew hline hs hplain
theorem pe_extend (ha : PE X a ta) (he : PE X e te) (hbase : attributeBase a "extend" X.env (eval a X.env) = eval a X.env := by rfl)
    (hfew : ((backTo cpos (starEach [e] X.env)).all (fun x => !x.1) && (backToKw cpos (keywordEach [] X.env)).all (fun x => x.1.isSome)
      && decide (([e] : List Expr).length + ([] : List Keyword).length + (if ([] : List Keyword).isEmpty then 0 else 1) < 30)) = true := by rfl)
    (hline : (apos.endLine == cpos.line) = true := by rfl) (hs : starEach [e] X.env = (false, eval e X.env) :: starEach [] X.env := by rfl) (hplain : (backTo cpos (starEach [] X.env)).any (·.1) = false := by rfl) :
    PE X (.Call (.Attribute a "extend" apos) [e] [] cpos) (tBM X.K "list" rExtend ta (tCons te tNil)) :=
  pe_bm PySem.F.plainAttrs_list PySem.F.slot_list_extend PySem.F.type_list_extend mt_extend ha (pa_cons he pa_nil hs) hbase hfew hline hs hplain
theorem pe_join (ha : PE X a ta) (he : PE X e te) (hbase : attributeBase a "join" X.env (eval a X.env) = eval a X.env := by rfl)
    (hfew : ((backTo cpos (starEach [e] X.env)).all (fun x => !x.1) && (backToKw cpos (keywordEach [] X.env)).all (fun x => x.1.isSome)
      && decide (([e] : List Expr).length + ([] : List Keyword).length + (if ([] : List Keyword).isEmpty then 0 else 1) < 30)) = true := by rfl)
    (hline : (apos.endLine == cpos.line) = true := by rfl) (hs : starEach [e] X.env = (false, eval e X.env) :: starEach [] X.env := by rfl) (hplain : (backTo cpos (starEach [] X.env)).any (·.1) = false := by rfl) :
    PE X (.Call (.Attribute a "join" apos) [e] [] cpos) (tBM X.K "str" (rJoin X.K) ta (tCons te tNil)) :=
  pe_bm PySem.F.plainAttrs_str PySem.F.slot_str_join PySem.F.type_str_join mt_join ha (pa_cons he pa_nil hs) hbase hfew hline hs hplain
theorem pe_split (ha : PE X a ta) (he : PE X e te) (hbase : attributeBase a "split" X.env (eval a X.env) = eval a X.env := by rfl)
    (hfew : ((backTo cpos (starEach [e] X.env)).all (fun x => !x.1) && (backToKw cpos (keywordEach [] X.env)).all (fun x => x.1.isSome)
      && decide (([e] : List Expr).length + ([] : List Keyword).length + (if ([] : List Keyword).isEmpty then 0 else 1) < 30)) = true := by rfl)
    (hline : (apos.endLine == cpos.line) = true := by rfl) (hs : starEach [e] X.env = (false, eval e X.env) :: starEach [] X.env := by rfl) (hplain : (backTo cpos (starEach [] X.env)).any (·.1) = false := by rfl) :
    PE X (.Call (.Attribute a "split" apos) [e] [] cpos) (tBM X.K "str" rSplit ta (tCons te tNil)) :=
  pe_bm PySem.F.plainAttrs_str PySem.F.slot_str_split PySem.F.type_str_split mt_split ha (pa_cons he pa_nil hs) hbase hfew hline hs hplain
end
end L2

namespace L2
open PySem PySem.Spec PyProof.Rows
section
variable {X : Cx}
theorem call_rangeR : CallR X (.type "range") (fun xs H Q => ∃ j : Int, xs = [.int j] ∧ ∀ p, H p = none → Q (.ref p) (upd H p (.rng 0 j))) := by
  intro pins s σ H xs us Q I r h
  obtain ⟨j, rfl, q⟩ := h
  obtain ⟨u, rfl, t, rfl⟩ := vals1 r
  refine call_range_1 ⟨.ref s.heap.objs.size, _, I.laid (o := .rng 0 j) (fun b o e => Heap.get?_push_of_some _ e) (Nat.le_refl _) ⟨_, _, _, Heap.get?_push_size _ rfl⟩, rfl, q _ I.fresh⟩
theorem vals_items {F : Nat → Int} : ∀ (l : List Value) (n : Nat), l.length = n → (∀ i v, l[i]? = some v → ∃ t, v = Value.int (F i) t) → Vals ((List.range n).map fun k => V.int (F k)) l := by
  intro l n hl h
  have : ∀ (l : List Value) (k n : Nat), l.length = n → (∀ i v, l[i]? = some v → ∃ t, v = Value.int (F (k + i)) t) → Vals ((List.range' k n).map fun k => V.int (F k)) l := by
    intro l
    induction l with
    | nil => intro k n hl _; subst hl; exact .nil
    | cons a l ih =>
      intro k n hl h
      cases n with
      | zero => cases hl
      | succ n =>
        rw [List.range'_succ, List.map_cons]
        refine .cons ?_ (ih (k + 1) n (by simpa using hl) fun i v e => ?_)
        · exact h 0 a rfl
        · have := h (i + 1) v (by simpa using e)
          rw [Nat.add_assoc, Nat.add_comm 1 i]
          exact this
  rw [List.range_eq_range']
  exact this l 0 n hl fun i v e => by rw [Nat.zero_add]; exact h i v e
theorem call_list_rng (hc : X.calm = true) : CallR X (.type "list") (fun xs H Q => ∃ p hi, xs = [.ref p] ∧ H p = some (.rng 0 hi) ∧ -(2 ^ 62) ≤ hi ∧ hi ≤ 16777216 ∧ ∀ l, H l = none → Q (.ref l) (upd H l (.lst ((List.range hi.toNat).map fun (k : Nat) => V.int (k : Int))))) := by
  intro pins s σ H xs us Q I r h
  obtain ⟨p, hi, rfl, hp, h1, h2, q⟩ := h
  obtain ⟨u, rfl, ru⟩ := vals1 r
  cases ru
  obtain ⟨t, u, v, e⟩ := (show ObjOk X.prog X.w H s.heap p (.rng 0 hi) from I.hok p _ hp)
  have e2 : Builtin.Range.rangeSize 0 hi 1 = ((hi.toNat : Nat) : Int) := by rw [rangeSize_one]; split <;> omega
  refine call_list_range (I.ok.hd hc) e (small_one (by decide) (by decide) h1 (by omega)) e2 (by omega) fun h' tk acc' c' hk hS hacc => ?_
  refine ⟨.ref s.heap.objs.size, _, I.laid (t' := tk) (o := .lst ((List.range hi.toNat).map fun (k : Nat) => V.int (k : Int))) hk (Nat.le_refl _) ⟨?_, acc'.toList, c', ?_, ?_⟩, rfl, q _ I.fresh⟩
  · rw [List.length_map, List.length_range]; show _ ≤ 2 ^ 24; omega
  · refine vals_items (F := fun k => (k : Int)) acc'.toList _ (by simpa using hacc.1) fun i v e => ?_
    obtain ⟨t', rfl⟩ := hacc.2 i v (by simpa using e)
    exact ⟨t', by simp⟩
  · simpa using hS
/-- a list of written ints -/
def intsOf : List Expr → Option (List Int)
  | [] => some []
  | .Constant (.int i) _ _ :: es => (intsOf es).map (i :: ·)
  | _ => none
theorem pa_ints : ∀ {es : List Expr} {ns : List Int}, intsOf es = some ns → PA X es (fun _ H Q => Q (ns.map V.int) H)
  | [], ns, h => by
    cases h
    exact pa_nil
  | e :: es, ns, h => by
    cases e with
    | Constant c k pos =>
      cases c with
      | int i =>
        have h' : (intsOf es).map (i :: ·) = some ns := h
        cases hq : intsOf es with
        | none => rw [hq] at h'; cases h'
        | some ms =>
          rw [hq] at h'
          have e' : i :: ms = ns := Option.some.inj h'
          subst e'
          exact pa_cons (te := tC (.int i)) pe_int (pa_ints hq) rfl
      | _ => cases h
    | _ => cases h
end
end L2

namespace L2
open PySem PySem.Spec PyProof.Rows
section
variable {X : Cx}
theorem vals_bl {bs : List Bool} {us : List Value} (r : Vals (bs.map V.bl) us) {i : Nat} {v : Value} (h : us[i]? = some v) : ∃ b, bs[i]? = some b ∧ v = .bool b := by
  have hl := r.length
  rw [List.length_map] at hl
  have hi : i < bs.length := by have := (List.getElem?_eq_some_iff.mp h).1; omega
  have e : (bs.map V.bl)[i]? = some (V.bl bs[i]) := by simp [hi]
  obtain ⟨u, hu, ru⟩ := r.get e
  rw [h] at hu
  cases hu
  exact ⟨bs[i], by simp [hi], ru⟩
theorem any_range (bs : List Bool) : ((List.range bs.length).any fun i => (bs[i]?).getD false) = bs.any id := by
  rw [Bool.eq_iff_iff, List.any_eq_true, List.any_eq_true]
  constructor
  · rintro ⟨i, hi, e⟩
    have hi' := List.mem_range.mp hi
    rw [List.getElem?_eq_getElem hi'] at e
    exact ⟨_, List.getElem_mem hi', e⟩
  · rintro ⟨b, hb, e⟩
    obtain ⟨i, hi⟩ := List.mem_iff_getElem?.mp hb
    exact ⟨i, List.mem_range.mpr (List.getElem?_eq_some_iff.mp hi).1, by rw [hi]; exact e⟩
theorem all_range (bs : List Bool) : ((List.range bs.length).all fun i => (bs[i]?).getD true) = bs.all id := by
  rw [Bool.eq_iff_iff, List.all_eq_true, List.all_eq_true]
  constructor
  · intro h b hb
    obtain ⟨i, hi⟩ := List.mem_iff_getElem?.mp hb
    have := h i (List.mem_range.mpr (List.getElem?_eq_some_iff.mp hi).1)
    rw [hi] at this
    exact this
  · intro h i hi
    have hi' := List.mem_range.mp hi
    rw [List.getElem?_eq_getElem hi']
    exact h _ (List.getElem_mem hi')
theorem call_all (hc : X.calm = true) : CallR X (.builtin "all") (fun xs H Q => ∃ (l : Addr) (bs : List Bool), xs = [.ref l] ∧ SqL X.K H l (bs.map V.bl) ∧ Q (.bl (bs.all id)) H) := by
  intro pins s σ H xs us Q I r h
  obtain ⟨l, bs, rfl, hl, q⟩ := h
  obtain ⟨u, rfl, ru⟩ := vals1 r
  cases ru
  obtain ⟨its, rv, pl, _⟩ := I.list hl
  have hli := pl.isList
  have hlt : l < s.heap.objs.size := by obtain ⟨_, e, _⟩ := hli; exact Heap.lt_size e
  have hlen := rv.length
  rw [List.length_map] at hlen
  refine call_all_walk (wpAny_pyIter_list hli ?_)
  refine ⟨s.heap.objs.size, [s.heap.objs.size, l], [s.heap.objs.size], its.toArray.size, _, _, fun i => (bs[i]?).getD true, rfl, Walks.list (A := X.A.in1) (I.ok.hd hc) _ l (Nat.ne_of_lt hlt) its.toArray,
    ⟨⟨_, Heap.get?_push_size _ rfl, rfl, rfl⟩, hli.push _⟩, fun i v s' Q' E' hP hQ => ?_, fun h' tk hk => ?_⟩
  · obtain ⟨b, e, rfl⟩ := vals_bl rv (i := i) (v := v) (by simpa using hP)
    simp only [e, Option.getD_some] at hQ
    exact wpAny_truthy_bool hQ
  · rw [List.size_toArray, ← hlen, all_range]
    exact ⟨.bl _, H, I.kept (t' := tk) fun b o e => hk b o (fun hm => by rw [List.mem_singleton.mp hm] at e; exact Nat.lt_irrefl _ (Heap.lt_size e)) (Heap.get?_push_of_some _ e), rfl, q⟩
end

/-! ### the same rules where the context is a block's: the written part said -/
section
variable {X : Cx} {K : PySem.W.Frag}
theorem ix_listK (K : PySem.W.Frag) (hK : X.K = K := by rfl) : IxR X (rIxL K) := by subst hK; exact ix_list
end
end L2

namespace L2
open PySem PySem.Spec PyProof.Rows
/-! ### try, whose body is left as it should be -/
/-- the same place, another word for what is raised -/
def Cx.catch (X : Cx) (E : Value → Shared → Prop) : Cx := { X with xe := E }
section
variable {X : Cx}
theorem Inv.catch {E : Value → Shared → Prop} {pins : List (Addr × Obj)} {σ : St} {H : Hp} {s : Shared} (I : Inv X pins σ H s) : Inv (X.catch E) pins σ H s :=
  ⟨⟨I.ok.mod, I.ok.kind, I.ok.glob, I.ok.blt, I.ok.above, I.ok.inj, I.ok.has, I.ok.cab, I.ok.hd, I.ok.frames, I.ok.stk, I.ok.exf, I.ok.bs, I.ok.bsz, I.ok.noex, I.ok.exfs, I.ok.funs, I.ok.frf⟩, I.os, I.bare, I.base, I.loc, I.cell, I.free, I.freeC, I.pin, I.hok, I.len⟩
theorem Inv.uncatch {E : Value → Shared → Prop} {pins : List (Addr × Obj)} {σ : St} {H : Hp} {s : Shared} (I : Inv (X.catch E) pins σ H s) : Inv X pins σ H s :=
  ⟨⟨I.ok.mod, I.ok.kind, I.ok.glob, I.ok.blt, I.ok.above, I.ok.inj, I.ok.has, I.ok.cab, I.ok.hd, I.ok.frames, I.ok.stk, I.ok.exf, I.ok.bs, I.ok.bsz, I.ok.noex, I.ok.exfs, I.ok.funs, I.ok.frf⟩, I.os, I.bare, I.base, I.loc, I.cell, I.free, I.freeC, I.pin, I.hok, I.len⟩
theorem SP.uncatch {E : Value → Shared → Prop} {pins : List (Addr × Obj)} {D : Ends} {f : Flow} {s : Shared} (h : SP (X.catch E) pins D f s) : SP X pins D f s := by
  cases f with
  | next => obtain ⟨σ, H, I, q⟩ := h; exact ⟨σ, H, I.uncatch, q⟩
  | brk => obtain ⟨σ, H, I, q⟩ := h; exact ⟨σ, H, I.uncatch, q⟩
  | cont => obtain ⟨σ, H, I, q⟩ := h; exact ⟨σ, H, I.uncatch, q⟩
  | ret u => obtain ⟨v, σ, H, I, r, q⟩ := h; exact ⟨v, σ, H, I.uncatch, r, q⟩
/-! ### sum of a list of ints -/
/-! ### len(set(list of ints)) -/
/-! ### xs[::-1] -/
end
end L2

namespace L2
open PySem PySem.Spec PyProof.Rows
/-! ### a dict is walked, by its entries -/
section
variable {prog : Program} {w : World} {A : Around} {E : Value → Shared → Prop} {s : Shared} {d it : Addr} {od : Obj} {es : Array DictEntry} {ep i : Nat}
end
/-! ### for k in d, keys tuples; the dict is held fast while it is walked -/
section
variable {X : Cx} {tg : Expr}
end
/-! ### {k: v}, the key a tuple -/
section
variable {X : Cx} {k v : Expr} {tk tv : TE} {pos : Pos}
end
/-! ### list(d), the keys tuples -/
section
variable {P : Program} {w : World} {A : Around} {I d : Addr} {od : Obj} {es : Array DictEntry} {ep : Nat}
end
section
variable {X : Cx}
end
/-! ### a new object at a place where none stood -/
section
variable {P : Program} {w : World} {H : Hp} {h h' : Heap} {a : Addr} {o : HO}
theorem ObjOk.there : ∀ {o : HO}, ObjOk P w H h a o → ∃ ob, h.get? a = some ob
  | .lst _, ⟨_, _, _, _, e⟩ => ⟨_, e⟩
  | .tup _, ⟨_, _, _, _, e, _⟩ => ⟨_, e⟩
  | .dK _, ⟨_, _, _, _, _, _, _, e, _⟩ => ⟨_, e⟩
  | .dT _, ⟨_, _, _, _, _, _, _, e, _⟩ => ⟨_, e⟩
  | .set _ _, ⟨_, _, _, _, e, _⟩ => ⟨_, e⟩
  | .ins _ _ _, ⟨_, _, _, e, _⟩ => ⟨_, e⟩
  | .own _, ⟨_, e⟩ => ⟨_, e⟩
  | .xd _, ⟨_, ⟨_, _, _, e, _⟩, _⟩ => ⟨_, e⟩
  | .rng _ _, ⟨_, _, _, e⟩ => ⟨_, e⟩
  | .frz _ _, ⟨e, _⟩ => ⟨_, e⟩
  | .tbl _, e => ⟨_, e⟩
  | .met _ _, e => ⟨_, e⟩
  | .ext _, ⟨_, e, _⟩ => e
theorem HOk.noneAt (x : HOk P w H h) (na : h.get? a = none) : H a = none := by
  cases q : H a with
  | none => rfl
  | some u => obtain ⟨_, e⟩ := (x a u q).there; rw [na] at e; cases e
end
/-! ### sorted(d), the keys ints -/
section
variable {X : Cx}
end
end L2

namespace L2
open PySem PySem.Spec PyProof.Rows
section
variable {X : Cx}
/-! ### max of a list of ints -/
inductive I_maxL (K : PySem.W.Frag) (xs : List V) (H : Hp) (Q : VK) : Prop where
  | mk (a : Addr) (ns : List Int) (h0 : xs = [.ref a]) (h1 : SqL K H a (ns.map V.int)) (h2 : 0 < ns.length) (h3 : ∀ M, M ∈ ns → (∀ x ∈ ns, x ≤ M) → Q (.int M) H) : I_maxL K xs H Q
/-! ### list(range(i, j, k)) -/
inductive I_rngL (Q : VK) (vs : List V) (H : Hp) : Prop where
  | mk (i j k : Int) (n : Nat) (h0 : vs = [.int i, .int j, .int k]) (h1 : k ≠ 0) (h2 : Builtin.Range.small i j k = true) (h3 : Builtin.Range.rangeSize i j k = n) (h4 : n ≤ 2 ^ 24) (h5 : Builtin.divisionGoesByPylong (j - i) k = false)
    (h6 : ∀ l, H l = none → Q (.ref l) (upd H l (.lst ((List.range n).map fun (m : Nat) => V.int (i + m * k))))) : I_rngL Q vs H
end
end L2

namespace L2
open PySem PySem.Spec PyProof.Rows
/-! ### sorted, by the answers that its questions get -/
section
variable {α : Type}
end
section
variable {prog : Program} {w : World} {A : Around} {E : Value → Shared → Prop} {s : Shared}
end
theorem vals_get {xs : List V} {us : List Value} (r : Vals xs us) {i : Nat} {x : V} (e : xs[i]? = some x) : ∃ u, us[i]? = some u ∧ RelV x u := by
  obtain ⟨u, h1, h2⟩ := r.get e
  exact ⟨u, h1, h2⟩
section
variable {X : Cx} {β : Type}
end
end L2

namespace L2
open PySem PySem.Spec PyProof.Rows
/-! ### the stations of an exception, its context kept -/
/-- e, of class c, k its context, its newest entry bearing fl -/
def Tr (h B : Heap) (e : Addr) (c k fl : Value) : Prop := ∃ oe vs T oT ts, h.get? e = some oe ∧ oe.cls = c ∧ oe.data = .fields vs ∧ vs[2]? = some k ∧ vs[1]? = some (.ref T) ∧ B.get? T = none ∧ T ≠ e ∧ h.get? T = some oT ∧ oT.data = .fields ts ∧ ts[3]? = some fl
def Fly (B : Heap) (l : List Env) (e : Addr) (c k : Value) (h : Heap) : Prop := B.StaysIn h ∧ B.get? e = none ∧ h.FunFrames B l ∧ Tr h B e c k .none
def Hel (B : Heap) (l : List Env) (e : Addr) (c k : Value) (L : Addr) (h : Heap) : Prop := B.StaysIn h ∧ B.get? e = none ∧ h.FunFrames B l ∧ Tr h B e c k (rawInt L)
theorem mapF_2 {vs : Array Value} {v x : Value} (h : vs[2]? = some x) : (vs.setIfInBounds 1 v)[2]? = some x := by
  rw [Array.getElem?_setIfInBounds_ne (by decide)]; exact h
section
variable {M : Model} {A : Around} {E : Value → Shared → Prop} {s : Shared} {B : Heap} {env : Env} {outer l : List Env} {L e : Addr} {c k : Value} {Q : Unit → Shared → Prop}
theorem fr_ne {h : Heap} {oe : Obj} {vs : Array Value} (hl : h.FunFrames B l) (he : h.get? e = some oe) (hd : oe.data = .fields vs) : e ∉ frs l := fun hm => by
  obtain ⟨_, o, ho, hn⟩ := hl.mem hm
  rw [he] at ho
  cases ho
  exact hn vs hd
theorem en_new {oe : Obj} {vs : Array Value} {head : Value} {had : Bool} (hfr : A.frames = some (env :: outer)) (hl : s.heap.FunFrames B (env :: outer)) (hf : env.frame = some L) (he : s.heap.get? e = some oe) (hk : B.StaysIn s.heap) (hen : B.get? e = none)
    (hd : oe.data = .fields vs) (hz : 1 < vs.size) (h2 : vs[2]? = some k)
    (h : ∀ h', B.StaysIn h' → h'.FunFrames B (env :: outer) → Tr h' B e oe.cls k (rawInt L) → s.heap.UpToSlots h' → Q () { s with heap := h' }) :
    wpAny M A (frameOf env >>= fun a => entryPlaceOf L had >>= fun pl => EntryCells.newEntry head a .none (rawInt L) .none pl >>= fun b => setField (.ref e) 1 b) Q E s := by
  have nfr := fr_ne hl he hd
  refine wpAny_bind (wpAny_frameOf_fun hfr hl hf fun g1 so => ?_)
  refine wpAny_bind (wpAny_entryPlaceOf fun pl hp => ?_)
  unfold EntryCells.newEntry newFields
  refine wpAny_bind (wpAny_newObj_type ?_ (hp.sizeOk5 _ _ _ _ _))
  have e1 : g1.get? e = some oe := (so.2.1 e nfr).trans he
  have k1 : B.StaysIn g1 := fun b o q => (so.2.1 b fun hm => by rw [(hl.mem hm).1] at q; cases q).trans (hk b o q)
  generalize hpd : (⟨.type "traceback", none, .fields ([head, .ref L, .none, rawInt L, .none] ++ (if pl.isEmpty then List.replicate 6 Value.none else pl)).toArray, #[]⟩ : Obj) = nw
  have hnw : nw.data = .fields ([head, .ref L, .none, rawInt L, .none] ++ (if pl.isEmpty then List.replicate 6 Value.none else pl)).toArray := by rw [← hpd]
  have h3 : ([head, Value.ref L, .none, rawInt L, .none] ++ (if pl.isEmpty then List.replicate 6 Value.none else pl)).toArray[3]? = some (rawInt L) := by simp
  have e2 : (g1.push nw).get? e = some oe := Heap.get?_push_of_some nw e1
  have hTe : g1.objs.size ≠ e := Nat.ne_of_gt (Heap.lt_size e1)
  have oth : ∀ b o, b ≠ e → g1.get? b = some o → ((g1.push nw).update e (Obj.mapFields (·.setIfInBounds 1 (Value.ref g1.objs.size)))).get? b = some o := fun b o n q => by
    rw [Heap.get?_update_other _ _ (Ne.symm n)]
    exact Heap.get?_push_of_some nw q
  have noe : ∀ b o, s.heap.get? b = some o → (∀ ws, o.data ≠ .fields ws) → b ≠ e := fun b o q hn z => by
    rw [z, he] at q
    cases q
    exact hn vs hd
  refine wpAny_setField e2 hd hz (h _ ?_ ?_ ?_ ?_)
  · exact fun b o q => oth b o (fun z => by rw [z, hen] at q; cases q) (k1 b o q)
  · refine hl.of_keeps fun b o q hn => ?_
    obtain ⟨sl, q1⟩ := so.2.2 b o q
    exact ⟨_, oth b _ (noe b o q hn) q1, rfl⟩
  · have hd3 := Obj.data_mapFields hd (·.setIfInBounds 1 (Value.ref g1.objs.size))
    refine ⟨_, _, g1.objs.size, nw, _, Heap.get?_update_self _ e2 (Obj.isFreed_of_fields hd3), Obj.cls_mapFields _ _, hd3, mapF_2 h2, by simp [hz], k1.fresh, hTe, ?_, hnw, h3⟩
    rw [Heap.get?_update_other _ _ (Ne.symm hTe)]
    exact Heap.get?_push_size g1 (by rw [← hpd]; rfl)
  · intro b o q hn
    obtain ⟨sl, q1⟩ := so.2.2 b o q
    exact ⟨sl, oth b _ (noe b o q hn) q1⟩
/-- setFlight e none -/
theorem fl_none {fl : Value} (hk : B.StaysIn s.heap) (hl : s.heap.FunFrames B l) (ht : Tr s.heap B e c k fl)
    (h : ∀ h', B.StaysIn h' → h'.FunFrames B l → Tr h' B e c k .none → s.heap.UpToSlots h' → Q () { s with heap := h' }) : wpAny M A (setFlight (.ref e) none) Q E s := by
  obtain ⟨oe, vs, T, oT, ts, he, hc, hd, h2, h1, nT, hTe, hT, hdT, h3⟩ := ht
  have z3 := (Array.getElem?_eq_some_iff.mp h3).1
  have oth : ∀ b, b ≠ T → (s.heap.update T (Obj.mapFields (·.setIfInBounds 3 Value.none))).get? b = s.heap.get? b := fun b n => Heap.get?_update_other _ _ (Ne.symm n)
  have noT : ∀ b o, s.heap.get? b = some o → (∀ ws, o.data ≠ .fields ws) → b ≠ T := fun b o q hn z => by
    rw [z, hT] at q
    cases q
    exact hn ts hdT
  unfold setFlight
  refine wpAny_bind (wpAny_field he hd h1 ?_)
  rw [if_pos (by rfl)]
  refine wpAny_setField hT hdT z3 (h _ (fun b o q => (oth b fun z => by rw [z, nT] at q; cases q).trans (hk b o q)) (hl.of_keeps fun b o q hn => ⟨o, (oth b (noT b o q hn)).trans q, rfl⟩) ?_ fun b o q hn => ⟨o.slots, (oth b (noT b o q hn)).trans q⟩)
  exact ⟨oe, vs, T, _, _, (oth e (Ne.symm hTe)).trans he, hc, hd, h2, h1, nT, hTe, Heap.get?_update_self _ hT (Obj.isFreed_of_fields (Obj.data_mapFields hdT _)), Obj.data_mapFields hdT _, by simp [z3]⟩
/-- noteFrame of an exception that comes from below -/
theorem note_on (hfr : A.frames = some (env :: outer)) (hf : env.frame = some L) (x : Fly B (env :: outer) e c k s.heap) (h : ∀ h', Hel B (env :: outer) e c k L h' → s.heap.UpToSlots h' → Q () { s with heap := h' }) : wpAny M A (noteFrame (.ref e) env) Q E s := by
  obtain ⟨hk, hen, hl, oe, vs, T, oT, ts, he, hc, hd, h2, h1, nT, hTe, hT, hdT, h3⟩ := x
  subst hc
  have oth : ∀ b, b ≠ T → (s.heap.update T (Obj.mapFields (·.setIfInBounds 3 Value.none))).get? b = s.heap.get? b := fun b n => Heap.get?_update_other _ _ (Ne.symm n)
  have noT : ∀ b o, s.heap.get? b = some o → (∀ ws, o.data ≠ .fields ws) → b ≠ T := fun b o q hn z => by
    rw [z, hT] at q
    cases q
    exact hn ts hdT
  unfold noteFrame
  simp only [hf]
  refine wpAny_bind (wpAny_field he hd h1 ?_)
  rw [if_pos (by rfl)]
  refine wpAny_bind (wpAny_field hT hdT h3 ?_)
  rw [if_neg (by simp [rawInt])]
  refine wpAny_bind (wpAny_setField hT hdT (Array.getElem?_eq_some_iff.mp h3).1 ?_)
  refine en_new (s := { s with heap := s.heap.update T (Obj.mapFields (·.setIfInBounds 3 Value.none)) }) hfr (hl.of_keeps fun b o q hn => ⟨o, (oth b (noT b o q hn)).trans q, rfl⟩) hf ((oth e (Ne.symm hTe)).trans he) (fun b o q => (oth b fun z => by rw [z, nT] at q; cases q).trans (hk b o q)) hen hd (Array.getElem?_eq_some_iff.mp h1).1 h2 fun h' x1 x2 x3 x4 => ?_
  exact h h' ⟨x1, hen, x2, x3⟩ fun b o q hn => x4 b o ((oth b (noT b o q hn)).trans q) hn
theorem lands (x : Hel B l e c k L s.heap) (h : ∀ h', Fly B l e c k h' → s.heap.UpToSlots h' → Q () { s with heap := h' }) : wpAny M A (setFlight (.ref e) none) Q E s :=
  fl_none x.1 x.2.2.1 x.2.2.2 fun h' x1 x2 x3 x4 => h h' ⟨x1, x.2.1, x2, x3⟩ x4
theorem lands2 (x : Fly B l e c k s.heap) (h : ∀ h', Fly B l e c k h' → s.heap.UpToSlots h' → Q () { s with heap := h' }) : wpAny M A (setFlight (.ref e) none) Q E s :=
  fl_none x.1 x.2.2.1 x.2.2.2 fun h' x1 x2 x3 x4 => h h' ⟨x1, x.2.1, x2, x3⟩ x4
theorem leave_on (hfr : A.frames = some (env :: outer)) (hf : env.frame = some L) (x : Fly B (env :: outer) e c k s.heap) (h : ∀ h', Fly B outer e c k h' → s.heap.UpToSlots h' → Q () { s with heap := h' }) : wpAny M A (leaving env (.ref e)) Q E s := by
  unfold leaving
  refine wpAny_bind (note_on hfr hf x fun h1 x1 u1 => ?_)
  refine lands x1 fun h2 x2 u2 => ?_
  obtain ⟨y1, y2, ⟨_, _, y3⟩, y4⟩ := x2
  exact h h2 ⟨y1, y2, y3, y4⟩ (u1.trans u2)
/-- a new exception, not yet noted anywhere, leaves -/
theorem leave_new {oe : Obj} {vs : Array Value} (hfr : A.frames = some (env :: outer)) (hl : s.heap.FunFrames B (env :: outer)) (hf : env.frame = some L) (he : s.heap.get? e = some oe) (hk : B.StaysIn s.heap) (hen : B.get? e = none)
    (hd : oe.data = .fields vs) (h1 : vs[1]? = some Value.none) (h2 : vs[2]? = some k) (h : ∀ h', Fly B outer e oe.cls k h' → s.heap.UpToSlots h' → Q () { s with heap := h' }) : wpAny M A (leaving env (.ref e)) Q E s := by
  unfold leaving noteFrame
  simp only [hf]
  refine wpAny_bind (wpAny_bind (wpAny_field he hd h1 ?_))
  rw [if_neg (by decide)]
  refine en_new hfr hl hf he hk hen hd (Array.getElem?_eq_some_iff.mp h1).1 h2 fun g1 x1 x2 x3 x4 => ?_
  refine lands (L := L) ⟨x1, hen, x2, x3⟩ fun g2 y u => ?_
  obtain ⟨y1, y2, ⟨_, _, y3⟩, y4⟩ := y
  exact h g2 ⟨y1, y2, y3, y4⟩ (x4.trans u)
end
end L2

namespace L2
open PySem PySem.Spec PyProof.Rows
/-! ### exceptions of own classes: raised, passed on, caught -/
/-- a def's own body -/
structure Body (X : Cx) : Prop where
  ex : X.ex = []
  stk : X.stack = X.env :: X.outer
  fr : X.env.frame = some X.env.locals
  fn : ∀ x, X.fn x = true
/-- what stands in h, but for the frames, stands in B -/
def Cov (B h : Heap) (l : List Env) : Prop := ∀ b o, h.get? b = some o → b ∉ frs l → ∃ o', B.get? b = some o'
/-- what is tracked stands in B -/
def CovH (B : Heap) (H : Hp) : Prop := ∀ b u, H b = some u → ∃ o, B.get? b = some o
/-- its context -/
def cxV : Option Addr → Value
  | none => .none
  | some a => .ref a
/-- its context: an exception without one -/
def CtxOk (B : Heap) (H : Hp) (o : Option Addr) : Prop := ∀ a, o = some a → H a = none ∧ ∃ oa ws, B.get? a = some oa ∧ oa.data = .fields ws ∧ ws[2]? = some Value.none
/-- how an exception of an own class lies behind a call -/
def CX1 (P : Program) (w : World) : CXT := fun outer H s E e s' => ∃ x C H' B o, e = Value.ref x ∧ s'.os = s.os ∧ AllBare s'.gens ∧ Un (frs outer) [] H H' s.heap s'.heap ∧ HOk P w H' s'.heap ∧ H' x = none ∧ Fly B outer x (.ref C) (cxV o) s'.heap ∧ CovH B H' ∧ Cov B s.heap outer ∧ CtxOk B H' o ∧ E (.ref C) o H'
section
variable {P : Program} {w : World} {H : Hp} {B h h' : Heap}
theorem hok_fly (x : HOk P w H h) (c : CovH B H) (k : B.StaysIn h) (k' : B.StaysIn h') : HOk P w H h' := fun a o e => by
  refine (x a o e).stay (fun b u hb hu => ?_) (fun _ q => q) fun _ _ q => q
  have : ∃ o, B.get? b = some o := by
    rcases hb with rfl | hb
    · exact c _ _ e
    · exact c _ _ hb
  obtain ⟨o', ho'⟩ := this
  have := k _ _ ho'
  rw [hu] at this
  cases this
  exact k' _ _ ho'
end
section
variable {X : Cx} {pins : List (Addr × Obj)} {σ : St} {H : Hp} {s : Shared} {B h' : Heap}
theorem un_fly (I : Inv X pins σ H s) (bd : Body X) (c0 : Cov B X.s₀.heap X.outer) (k : B.StaysIn s.heap) (k' : B.StaysIn h') (up : s.heap.UpToSlots h') : Un X.fs [] X.H₀ H X.s₀.heap h' := by
  have nx : ∀ b : Addr, b ∉ X.ex := fun b => by rw [bd.ex]; simp
  have sl : ∀ b o, X.s₀.heap.get? b = some o → X.H₀ b = none → b ∈ X.fs → ∃ sl, h'.get? b = some { o with slots := sl } := fun b o q n hb => by
    obtain ⟨sl, h1⟩ := I.base.slot b o q n hb (nx b)
    obtain ⟨_, o2, h2, h3⟩ := I.ok.funs.mem hb
    rw [q] at h2; cases h2
    obtain ⟨sl2, h4⟩ := up b _ h1 h3
    exact ⟨sl2, h4⟩
  refine ⟨fun b o q n hb _ => ?_, fun b o q n hb _ => sl b o q n hb, fun b o q n _ => I.base.free b o q n (nx b), fun b o q _ => ?_, I.base.tups, I.base.frzs, I.base.tbls⟩
  · have h1 := I.base.keep b o q n hb (nx b)
    obtain ⟨o', ho'⟩ := c0 b o q hb
    have := k _ _ ho'
    rw [h1] at this; cases this
    exact k' _ _ ho'
  · by_cases hb : b ∈ X.fs
    · obtain ⟨sl, h1⟩ := sl b o q (I.ok.frf b hb) hb
      exact ⟨_, h1⟩
    · obtain ⟨o', ho'⟩ := c0 b o q hb
      exact ⟨_, k' _ _ ho'⟩
theorem frs_stack (bd : Body X) : frs X.stack = X.env.locals :: X.fs := by
  rw [bd.stk]
  show List.filterMap _ _ = _
  rw [List.filterMap_cons, bd.fr]
  rfl
theorem inv_fly {Hc : Hp} {sc : Shared} {t' : Nat} (I : Inv X pins σ H s) (bd : Body X) (Ic : Inv X pins σ Hc sc) (c : Cov B sc.heap X.stack) (cH : CovH B H) (k : B.StaysIn s.heap) (k' : B.StaysIn h') (up : s.heap.UpToSlots h') : Inv X pins σ H { s with heap := h', toks := t' } := by
  have nx : ∀ b : Addr, b ∉ X.ex := fun b => by rw [bd.ex]; simp
  have stay : ∀ b o, sc.heap.get? b = some o → b ≠ X.env.locals → b ∉ X.fs → ∀ u, s.heap.get? b = some u → h'.get? b = some u := fun b o q n1 n2 u hu => by
    obtain ⟨o', ho'⟩ := c b o q (by rw [frs_stack bd]; intro z; rcases List.mem_cons.mp z with z | z; exact n1 z; exact n2 z)
    have := k _ _ ho'
    rw [hu] at this; cases this
    exact k' _ _ ho'
  have c0 : Cov B X.s₀.heap X.outer := fun b o q hb => by
    obtain ⟨o1, h1⟩ := Ic.base.there b o q (nx b)
    refine c b o1 h1 ?_
    rw [frs_stack bd]
    intro z
    rcases List.mem_cons.mp z with z | z
    · have := Heap.lt_size q
      rw [z] at this
      exact absurd (Nat.lt_of_lt_of_le this I.ok.above) (Nat.lt_irrefl _)
    · exact hb z
  have ccell : ∀ x c, X.env.cells.lookup x = some c → ∀ u, s.heap.get? c = some u → h'.get? c = some u := fun x c e u hu => by
    obtain ⟨v, o, ho, hd⟩ := Ic.cell x c e
    refine stay c o ho (I.cne x c e) (fun z => ?_) u hu
    obtain ⟨_, o2, h2, _⟩ := I.ok.funs.mem z
    exact absurd (Nat.lt_of_lt_of_le (Heap.lt_size h2) (I.ok.cab x c (bd.fn x) e)) (Nat.lt_irrefl _)
  obtain ⟨m, hm, look⟩ := I.loc
  have hm' : h'.Ns X.env.locals m := up.ns hm
  refine ⟨I.ok, I.os, I.bare, by have := un_fly I bd c0 k k' up; rw [← bd.ex] at this; exact this, ⟨m, hm', fun i x v h1 h2 h3 => ?_⟩, fun x c e => ?_, I.free, I.freeC, fun p hp => ?_, hok_fly I.hok cH k k', I.len⟩
  · obtain ⟨u, ru, lk⟩ := look i x v h1 h2 h3
    refine ⟨u, ru, ?_⟩
    rcases lk with lk | ⟨kd, c, e, o, ho, hd⟩
    · exact .inl lk
    · exact .inr ⟨kd, c, e, o, ccell x c e o ho, hd⟩
  · obtain ⟨v, o, ho, hd⟩ := I.cell x c e
    exact ⟨v, o, ccell x c e o ho, hd⟩
  · obtain ⟨h1, h2, h3, h4, h5⟩ := I.pin p hp
    obtain ⟨g1, _⟩ := Ic.pin p hp
    exact ⟨stay _ _ g1 h3 h4 _ h1, h2, h3, h4, h5⟩
/-- what a def's body wants of an exception of an own class -/
def XE (X : Cx) (P : Program) (w : World) (E : XK) : Prop := X.xe = fun e s' => wpAny (model P w) X.A (leaving X.env e) (fun _ s'' => CX1 P w X.outer X.H₀ X.s₀ E e s'') (fun e' s'' => CX1 P w X.outer X.H₀ X.s₀ E e' s'') s'
theorem cx_end {E : XK} {x C : Addr} {o : Option Addr} {h'' : Heap} (I : Inv X pins σ H s) (bd : Body X) (c0 : Cov B X.s₀.heap X.outer) (cH : CovH B H) (k : B.StaysIn s.heap) (hx : H x = none) (fl : Fly B X.outer x (.ref C) (cxV o) h'') (up : s.heap.UpToSlots h'') (ck : CtxOk B H o) (e : E (.ref C) o H) :
    CX1 X.prog X.w X.outer X.H₀ X.s₀ E (.ref x) { s with heap := h'' } :=
  ⟨x, C, H, B, o, rfl, I.os, I.bare, un_fly I bd c0 k fl.1 up, hok_fly I.hok cH k fl.1, hx, fl, cH, c0, ck, e⟩
theorem cov_out {Hc : Hp} {sc : Shared} (bd : Body X) (Ic : Inv X pins σ Hc sc) (c : Cov B sc.heap X.stack) : Cov B X.s₀.heap X.outer := fun b o q hb => by
  obtain ⟨o1, h1⟩ := Ic.base.there b o q (by rw [bd.ex]; simp)
  refine c b o1 h1 ?_
  rw [frs_stack bd]
  intro z
  rcases List.mem_cons.mp z with z | z
  · have := Heap.lt_size q
    rw [z] at this
    exact absurd (Nat.lt_of_lt_of_le this Ic.ok.above) (Nat.lt_irrefl _)
  · exact hb z
/-- an exception of a callee passes on -/
theorem passX {E : XK} (bd : Body X) (xe : XE X X.prog X.w E) : Passes (CX1 X.prog X.w) X E := by
  intro pins σ H s e s' I h
  obtain ⟨x, C, H', B, o, rfl, os, bare, un, hok, hx, fl, cH, c, ck, he⟩ := h
  have I' := I.call' os un hok bare (fun b z => absurd z (by simp))
  have c0 := cov_out bd I c
  rw [xe]
  show wpAny _ _ _ _ _ _
  refine leave_on (B := B) (outer := X.outer) (k := cxV o) (c := .ref C) (by rw [I.ok.frames, bd.stk]) bd.fr (by rw [bd.stk] at fl; exact fl) fun h'' fl' up => ?_
  exact cx_end I' bd c0 cH fl.1 hx fl' up ck he
/-- a new exception leaves -/
theorem newX {E : XK} {C e : Addr} {o : Option Addr} {vs : Array Value} {oe : Obj} {h1 : Heap} {tk : Nat} (bd : Body X) (xe : XE X X.prog X.w E) (I : Inv X pins σ H s) (kp : ∀ b o, s.heap.get? b = some o → h1.get? b = some o) (nw : s.heap.get? e = none) (he1 : h1.get? e = some oe) (hcl : oe.cls = .ref C) (hd : oe.data = .fields vs) (v1 : vs[1]? = some Value.none) (v2 : vs[2]? = some (cxV o))
    (hck : ∀ a, o = some a → H a = none ∧ ∃ oa ws, s.heap.get? a = some oa ∧ oa.data = .fields ws ∧ ws[2]? = some Value.none) (he : E (.ref C) o H) : X.xe (.ref e) { s with heap := h1, toks := tk } := by
  rw [xe]
  show wpAny _ _ _ _ _ _
  have hin : ∀ env ∈ X.stack, ∀ b, env.frame = some b → b ∈ frs X.stack := fun env h b hb => List.mem_filterMap.mpr ⟨env, h, hb⟩
  have ff : s.heap.FunFrames (PySem.W.hideAll s.heap (frs X.stack)) X.stack := PySem.W.funFrames_hide I.stack hin
  have ff1 : h1.FunFrames (PySem.W.hideAll s.heap (frs X.stack)) (X.env :: X.outer) := by
    rw [← bd.stk]
    exact ff.of_keeps fun b o q _ => ⟨o, kp b o q, rfl⟩
  have hcov : ∀ b o, s.heap.get? b = some o → b ∉ frs X.stack → (PySem.W.hideAll s.heap (frs X.stack)).get? b = some o := fun b o q n => PySem.W.hideAll_get _ q n
  have cH : CovH (PySem.W.hideAll s.heap (frs X.stack)) H := fun b u q => by
    obtain ⟨o, ho⟩ := (I.hok b u q).there
    exact ⟨o, hcov b o ho fun z => by rw [I.stkFree b z] at q; cases q⟩
  have c0 : Cov (PySem.W.hideAll s.heap (frs X.stack)) X.s₀.heap X.outer := cov_out bd I fun b o q n => ⟨o, hcov b o q n⟩
  have I' : Inv X pins σ H { s with heap := h1, toks := tk } := I.kept (t' := tk) kp
  have st : (PySem.W.hideAll s.heap (frs X.stack)).StaysIn h1 := fun b o q => kp b o (PySem.W.of_hideAll _ q)
  have en : (PySem.W.hideAll s.heap (frs X.stack)).get? e = none := by
    cases q : (PySem.W.hideAll s.heap (frs X.stack)).get? e with
    | none => rfl
    | some o => have := PySem.W.of_hideAll _ q; rw [nw] at this; cases this
  refine leave_new (s := { s with heap := h1, toks := tk }) (k := cxV o) (by rw [I.ok.frames, bd.stk]) ff1 bd.fr he1 st en hd v1 v2 fun h'' fl up => ?_
  rw [hcl] at fl
  exact cx_end (s := { s with heap := h1, toks := tk }) I' bd c0 cH st (I.hok.noneAt nw) fl up (fun a ea => let ⟨x1, oa, ws, x2, x3, x4⟩ := hck a ea; ⟨x1, oa, ws, hcov a oa x2 (fr_ne ff x2 x3), x3, x4⟩) he
end
end L2

namespace L2
open PySem PySem.Spec PyProof.Rows
/-! ### raise C("..") -/
abbrev bmV : List Value := [.type "ValueError", .type "Exception", .type "BaseException", .type "object"]
/-- an own class of exceptions, below ValueError -/
structure XC (K : PySem.W.Frag) (mg : Str → Option Value) (x : Str) (C : Addr) : Prop where
  g : mg x = some (.ref C)
  ex : PySem.W.excIn K C bmV "ValueError.__new__" = true
theorem exc_obj {K : PySem.W.Frag} {h : Heap} {C : Addr} {bmB : List Value} {newId : String} (X : K.In h) (q : PySem.W.excIn K C bmB newId = true) :
    ∃ bm N nm q bs hdct sn sub ab col dd k0 k1 k2 k3 k5 mN, h.get? C = some (excClassObj nm q C N bs bm hdct sn sub ab col dd k0 k1 k2 k3 k5 newId) ∧ h.Ns N mN ∧ mN "__init__" = none ∧ OwnTail h bmB bm ∧ (∃ cd sl dd', K.lookup C = some ⟨.type "type", dd', .cls cd, sl⟩ ∧ cd.mro = .ref C :: bm) := by
  unfold PySem.W.excIn at q
  split at q
  case h_2 => exact absurd q (by decide)
  case h_1 dd cd sl look =>
    split at q
    case h_2 => exact absurd q (by decide)
    case h_1 C' bm k0 k1 k2 k3 n k5 hm hs =>
      simp only [Bool.and_eq_true, Bool.not_eq_true', beq_iff_eq] at q
      obtain ⟨⟨⟨⟨⟨e1, e2⟩, e3⟩, e4⟩, e5⟩, e6⟩ := q
      subst e1 e2
      obtain ⟨nm, bs, mro, ns, qn, hd, sn, sub, ab, col, del⟩ := cd
      dsimp only at hm e3 e5 e6
      subst hm e3
      obtain ⟨sll⟩ := sl
      dsimp only at hs
      subst hs
      have hob := X _ _ look
      exact ⟨bm, ns, nm, qn, bs, hd, sn, sub, ab, col, dd, k0, k1, k2, k3, k5, _, hob, .of_isNs (PySem.W.isNs_of_in X e5), PySem.W.nsMap_none_of_in X e5 e6, PySem.W.tail_of_in X e4, _, _, _, look, rfl⟩
section
variable {X : Cx} {E : XK} {C : Addr}
theorem ps_raise {x msg : Str} {np cpos pos p : Pos} {j : Nat} (bd : Body X) (xe : XE X X.prog X.w E) (hc : X.calm = true) (c : XC X.K X.mg x C) (hg : Gl X x := by rfl) (hd : (x == ("__debug__" : Str)) = false := by decide) :
    PS X (.Raise (some (.Call (.Name x np) [.Constant (.str msg) j p] [] cpos)) none pos) (fun _ _ H => E (.ref C) none H) := by
  intro pins s σ H D I h
  obtain ⟨bm, N, nm, q, bs, hdct, sn, sub, ab, col, dd, k0, k1, k2, k3, k5, mN, hC, hN, hni, T, _⟩ := exc_obj I.kIn c.ex
  refine wpAny_Raise_call_subT (C := C) (nm := nm) (q := q) (N := N) (bs := bs) (bm := bm) (hdct := hdct) (sn := sn) (sub := sub) (ab := ab) (col := col) (dd := dd) (k0 := k0) (k1 := k1) (k2 := k2) (k3 := k3) (k5 := k5)
    PySem.F.excBase_ValueError (mN := mN) (T.hasType PySem.F.excBase_ValueError.hasBase) (I.ok.hd hc) rfl hni (ld_glob I hg c.g ⟨rfl, ?_⟩ hd)
  refine Calls.evalArgs_plain (Calls.spliced_cons (Calls.Constant_str (k := j) (pos := p) (Calls.spliced_nil ?_)))
  refine ⟨rfl, (by show 1 ≤ sizeLine; decide), hC, hN, T, fun h' e hx => ?_⟩
  obtain ⟨t, ht, _, _⟩ := hx.there
  exact newX (o := none) bd xe (I.tok _) hx.keeps hx.new ht rfl rfl rfl rfl (fun a ea => nomatch ea) h
end
/-! ### calls that may raise -/
section
variable (P : Program) (w : World) (K : PySem.W.Frag) (mg : Str → Option Value) (base : Heap) (k : Nat)
def FnX (x : Str) (ps : List Str) (sp : Sp) : Prop := ∃ f fd, FnOk P w K mg base (CX1 P w) k f fd ps sp ∧ mg x = some (.ref f) ∧ PySem.W.keepIn K (.ref f) = true ∧ Binds K fd ps []
def MkX (x : Str) (C : Addr) (ps : List Str) (sp : Sp) : Prop := ∃ f fd, FnOk P w K mg base (CX1 P w) k f fd ps sp ∧ mg x = some (.ref C) ∧ Mk K C f ∧ Binds K fd ps []
end
section
variable {X : Cx} {E : XK} {k : Nat} {x m : Str} {C : Addr} {ps : List Str} {sp : Sp} {p pos apos : Pos} {e o : Expr} {es : List Expr} {ta : TE} {t : TA}
theorem pe_fnX (bd : Body X) (xe : XE X X.prog X.w E) (F : FnX X.prog X.w X.K X.mg X.base k x ps sp) (hr : Room k X.A) (ha : PA X (e :: es) t) (hg : Gl X x := by rfl) (hdb : (x == ("__debug__" : Str)) = false := by decide) (he : starEach (e :: es) X.env = (false, eval e X.env) :: starEach es X.env := by rfl) (hpl : (backTo pos (starEach es X.env)).any (·.1) = false := by rfl) :
    PE X (.Call (.Name x p) (e :: es) [] pos) (tCall sp [] E t) := by
  obtain ⟨f, fd, F, hm, hk, hb⟩ := F
  exact pe_call F hr hg hm hk hb .nil (passX bd xe) ha hdb he hpl
theorem pe_mkX (bd : Body X) (xe : XE X X.prog X.w E) (M : MkX X.prog X.w X.K X.mg X.base k x C ps sp) (hr : Room (k + 1) X.A) (ha : PA X (e :: es) t) (hg : Gl X x := by rfl) (hdb : (x == ("__debug__" : Str)) = false := by decide) (he : starEach (e :: es) X.env = (false, eval e X.env) :: starEach es X.env := by rfl) (hpl : (backTo pos (starEach es X.env)).any (·.1) = false := by rfl) :
    PE X (.Call (.Name x p) (e :: es) [] pos) (tMake C sp [] E t) := by
  obtain ⟨f, fd, F, hm, hM, hb⟩ := M
  exact pe_make hM F hr hg hm hb .nil (passX bd xe) ha hdb he hpl
end
section
variable {P : Program} {w : World} {K : PySem.W.Frag} {mg : Str → Option Value} {base : Heap} {CX : CXT} {N : List Str} {qual : Str} {scope : Scope} {f : Addr} {cd : Value} {A : Around} {outer : List Env} {s : Shared} {H : Hp} {E : XK}
abbrev cxX (P : Program) (w : World) (K : PySem.W.Frag) (mg : Str → Option Value) (base : Heap) (N : List Str) (qual : Str) (scope : Scope) (f : Addr) (cd : Value) (A : Around) (outer : List Env) (s : Shared) (H : Hp) (E : XK) : Cx := cxOf (CX1 P w) P w K mg base N qual scope f cd A outer s H E
theorem bdX : Body (cxX P w K mg base N qual scope f cd A outer s H E) := ⟨rfl, rfl, rfl, fun _ => rfl⟩
theorem xeX : XE (cxX P w K mg base N qual scope f cd A outer s H E) P w E := rfl
theorem ownX : PassesOwn (model P w) (cxX P w K mg base N qual scope f cd A outer s H E).A (cxX P w K mg base N qual scope f cd A outer s H E).env (cxX P w K mg base N qual scope f cd A outer s H E).xe := PassesOwn.leaving
/-- THE RULE for a def that may raise -/
theorem Fun.okX {x qual : Str} {st : Stmt} {f : Addr} {fd : FuncData} {N ps : List Str} {k : Nat} {sp : Sp} (F : Fun K x qual st f fd) (S : FnScope N ps (defScope st)) (len : ∀ vs H Q E, sp vs H Q E → vs.length = ps.length)
    (hbody : ∀ (cdv : Value) (A : Around) (outer : List Env) (s : Shared) (H : Hp) (vs : List V) (Q : VK) (E : XK), Room k (A.deeper (envOfC qual (defScope st) s.heap.objs.size f cdv)) → sp vs H Q E →
      ∃ t, PSs (cxX P w K mg base N qual (defScope st) f cdv A outer s H E) (defBody st) t ∧ t { nx := fun _ H' => Q .non H', rt := Q } (start N vs) H) : FnOk P w K mg base (CX1 P w) (k + 1) f fd ps sp := by
  obtain ⟨oc, od, kV, doc, pm, an, cdv, ct, osl, rfl, lk, hcd⟩ := F.ex
  exact fn_of lk hcd S len fun A outer s H vs Q E hr hsp => hbody cdv A outer s H vs Q E hr hsp
/-- what never raises, among what may -/
theorem FnOk.up {k : Nat} {fd : FuncData} {ps : List Str} {sp : Sp} (F : FnOk P w K mg base CX0 k f fd ps sp) : FnOk P w K mg base (CX1 P w) k f fd ps sp := by
  refine ⟨F.len, fun A outer s H args us vs Q E hr he hb hv hs => codeAny_mono (F.run A outer s H args us vs Q E hr he hb hv hs) fun r s' hq => ?_⟩
  cases r with
  | error e => exact False.elim hq
  | ok fl => cases fl <;> exact hq
end
end L2

namespace L2
open PySem PySem.Spec PyProof.Rows
/-! ### an exception within a body: what a try sees -/
def XP (X : Cx) (pins : List (Addr × Obj)) (σ : St) (E : XK) (ev : Value) (s' : Shared) : Prop :=
  ∃ x C H' B o Hc sc, ev = Value.ref x ∧ Inv X pins σ H' s' ∧ H' x = none ∧ Fly B X.stack x (.ref C) (cxV o) s'.heap ∧ CovH B H' ∧ Inv X pins σ Hc sc ∧ Cov B sc.heap X.stack ∧ CtxOk B H' o ∧ E (.ref C) o H'
abbrev TX := St → Hp → VK → XK → Prop
def PX (X : Cx) (e : Expr) (t : TX) : Prop := ∀ (pins : List (Addr × Obj)) (s : Shared) (σ : St) (H : Hp) (Q : VK) (E : XK), Inv X pins σ H s → t σ H Q E → wpAny (model X.prog X.w) X.A (eval e X.env) (EP X pins σ Q) (XP X pins σ E) s
def PSX (X : Cx) (st : Stmt) (t : Ends → St → Hp → XK → Prop) : Prop := ∀ (pins : List (Addr × Obj)) (s : Shared) (σ : St) (H : Hp) (D : Ends) (E : XK), Inv X pins σ H s → t D σ H E → wpAny (model X.prog X.w) X.A (exec st X.env) (SP X pins D) (XP X pins σ E) s
section
variable {X : Cx} {k : Nat} {f C : Addr} {fd : FuncData} {x m : Str} {ps : List Str} {sp : Sp} {p pos apos : Pos} {e o : Expr} {es : List Expr} {ta : TE} {t : TA}
theorem run_fnP {pins : List (Addr × Obj)} {σ : St} {H : Hp} {s : Shared} {Q : VK} {E : XK} {us : List Value} {vs : List V} (F : FnOk X.prog X.w X.K X.mg X.base (CX1 X.prog X.w) k f fd ps sp) (hr : Room k X.A) (hb : Binds X.K fd ps [])
    (I : Inv X pins σ H s) (r : Vals vs us) (h : sp vs H Q E) : wpAny (model X.prog X.w) X.A (call (.ref f) us) (EP X pins σ Q) (XP X pins σ E) s := by
  have hl : (us ++ []).length = ps.length := by rw [List.append_nil, ← r.length]; exact F.len _ _ _ _ h
  have hb' := hb s us I.kIn hl
  rw [List.append_nil] at hb'
  refine wpAny_call (codeAny_mono (F.run X.A X.stack s H ⟨us, []⟩ us vs Q E hr I.env0 hb' r h) fun r s' hq => ?_)
  cases r with
  | error e =>
    obtain ⟨x, C, H', B, o, rfl, os, bare, un, hok, hx, fl, cH, c, ck, he⟩ := hq
    exact ⟨x, C, H', B, o, H, s, rfl, I.call' os un hok bare (fun b z => absurd z (by simp)), hx, fl, cH, I, c, ck, he⟩
  | ok fl =>
    cases fl with
    | ret u => exact I.after hq
    | next => exact False.elim hq
    | brk => exact False.elim hq
    | cont => exact False.elim hq
theorem px_fn (F : FnX X.prog X.w X.K X.mg X.base k x ps sp) (hr : Room k X.A) (ha : ∀ xe, PA (X.catch xe) (e :: es) t) (hg : Gl X x := by rfl) (hdb : (x == ("__debug__" : Str)) = false := by decide) (he : starEach (e :: es) X.env = (false, eval e X.env) :: starEach es X.env := by rfl) (hpl : (backTo pos (starEach es X.env)).any (·.1) = false := by rfl) :
    PX X (.Call (.Name x p) (e :: es) [] pos) (fun σ H Q E => t σ H fun vs H1 => sp vs H1 Q E) := by
  obtain ⟨f, fd, F, hm, hk, hb⟩ := F
  intro pins s σ H Q E I h
  refine wpAny_Call_Name_kw (ld_glob I hg hm ?_ hdb)
  refine PySem.W.callWith_K (h₀ := X.base) I.ok.mod.kin hk (wpAny_mono (ha (XP X pins σ E) pos pins s σ H _ I.catch h) (fun us s1 ⟨vs, H1, I1, r, q⟩ => ⟨I1.uncatch.kIn, ?_⟩) fun _ _ z => z) he hpl
  exact run_fnP F hr hb I1.uncatch r q
theorem px_mk (M : MkX X.prog X.w X.K X.mg X.base k x C ps sp) (hr : Room (k + 1) X.A) (ha : ∀ xe, PA (X.catch xe) (e :: es) t) (hg : Gl X x := by rfl) (hdb : (x == ("__debug__" : Str)) = false := by decide) (he : starEach (e :: es) X.env = (false, eval e X.env) :: starEach es X.env := by rfl) (hpl : (backTo pos (starEach es X.env)).any (·.1) = false := by rfl) :
    PX X (.Call (.Name x p) (e :: es) [] pos) (fun σ H Q E => t σ H fun vs H1 => ∀ x dx, H1 x = none → H1 dx = none → dx ≠ x → sp (.ref x :: vs) (upd (upd H1 dx (.own x)) x (.ins C dx [])) (fun v H2 => v = .non ∧ Q (.ref x) H2) E) := by
  obtain ⟨f, fd, F, hm, hM, hb⟩ := M
  intro pins s σ H Q E I h
  refine wpAny_Call_Name_kw (ld_glob I hg hm ?_ hdb)
  refine PySem.W.callWith_K (h₀ := X.base) I.ok.mod.kin hM.kp (wpAny_mono (ha (XP X pins σ E) pos pins s σ H _ I.catch h) (fun us s1 ⟨vs, H1, I1', r, q⟩ => ⟨I1'.uncatch.kIn, ?_⟩) fun _ _ z => z) he hpl
  have I1 := I1'.uncatch
  have hq := q (s1.heap.objs.size + 1) s1.heap.objs.size (I1.hok.fresh (Nat.le_succ _)) (I1.hok.fresh (Nat.le_refl _)) (Nat.ne_of_lt (Nat.lt_succ_self _))
  have I2 := Inv.made (C := C) I1
  have r2 : Vals (V.ref (s1.heap.objs.size + 1) :: vs) (Value.ref (s1.heap.objs.size + 1) :: us) := .cons rfl r
  have hl : (Value.ref (s1.heap.objs.size + 1) :: us ++ []).length = ps.length := by
    have e := r2.length
    rw [F.len _ _ _ _ hq] at e
    rw [List.append_nil]
    exact e.symm
  have hb' := hb _ (Value.ref (s1.heap.objs.size + 1) :: us) I2.kIn hl
  rw [List.append_nil] at hb'
  refine wpAny_call (make_map (f := f) I1.kIn hM.makes hM.init (beq_iff_eq.mp hM.fn) (codeAny_mono (F.run _ X.stack _ _ ⟨Value.ref (s1.heap.objs.size + 1) :: us, []⟩ (Value.ref (s1.heap.objs.size + 1) :: us) _ _ E (hr.make C us [])
    (I2.env0.make C us []) hb' r2 hq) fun r s' hq' => ?_))
  cases r with
  | error e =>
    obtain ⟨x, C, H', B, o, rfl, os, bare, un, hok, hx, fl, cH, c, ck, he⟩ := hq'
    exact ⟨x, C, H', B, o, _, _, rfl, I2.call' os un hok bare (fun b z => absurd z (by simp)), hx, fl, cH, I2, c, ck, he⟩
  | ok fl =>
    cases fl with
    | ret u =>
      obtain ⟨v, H', I3, rv, ev, q3⟩ := I2.after hq'
      subst ev
      exact ⟨rv, ⟨V.ref (s1.heap.objs.size + 1), H', I3, rfl, q3⟩⟩
    | next => exact False.elim hq'
    | brk => exact False.elim hq'
    | cont => exact False.elim hq'
theorem psx_expr {te : TX} (he : PX X e te) (hs : swapsWith e none pos.line X.env = pure false := by rfl) : PSX X (.Expr e pos) (fun D σ H E => te σ H (fun _ H' => D.nx σ H') E) := by
  intro pins s σ H D E I h
  exact wpAny_Expr_any (wpAny_mono (he pins s σ H _ E I h) (fun v s1 ⟨x, H1, I1, r1, q1⟩ => ⟨σ, H1, I1, q1⟩) fun _ _ z => z) I.quiet hs
theorem psx_ret {te : TX} (he : PX X e te) : PSX X (.Return (some e) pos) (fun D σ H E => te σ H D.rt E) := by
  intro pins s σ H D E I h
  exact wpAny_Return_some (wpAny_mono (he pins s σ H _ E I h) (fun v s1 ⟨x, H1, I1, r1, q1⟩ => ⟨x, σ, H1, I1, r1, q1⟩) fun _ _ z => z)
end
/-! ### the class of an exception -/
/-- D stands among the classes of C -/
def subIn (K : PySem.W.Frag) (C D : Addr) : Bool := match K.lookup C with
  | some ⟨_, _, .cls cd, _⟩ => cd.mro.contains (.ref D)
  | _ => false
section
variable {M : Model} {A : Around} {E : Value → Shared → Prop} {s : Shared}
theorem matches_own {K : PySem.W.Frag} {e C D : Addr} {oe : Obj} {b : Bool} {Q : Bool → Shared → Prop} (X : K.In s.heap) (qC : PySem.W.excIn K C bmV "ValueError.__new__" = true) (qD : PySem.W.excIn K D bmV "ValueError.__new__" = true) (hs : subIn K C D = b)
    (he : s.heap.get? e = some oe) (hc : oe.cls = .ref C) (h : Q b s) : wpAny M A (excMatches (.ref e) (.ref D)) Q E s := by
  obtain ⟨bm, N, nm, q, bs, hdct, sn, sub, ab, col, dd, k0, k1, k2, k3, k5, mN, hC, hN, hni, T, cd, sl, dd', look, hm⟩ := exc_obj X qC
  obtain ⟨bm', N', nm', q', bs', hdct', sn', sub', ab', col', dd2, l0, l1, l2, l3, l5, mN', hD, hN', hni', T', _⟩ := exc_obj X qD
  have cb : (Value.ref D :: bm').contains (.type "BaseException") = true := by rw [List.contains_cons, T'.hasType PySem.F.excBase_ValueError.hasBase, Bool.or_true]
  have cc : (Value.ref C :: bm).contains (.ref D) = b := by
    unfold subIn at hs
    rw [look] at hs
    rw [← hm]; exact hs
  have nt := tc_notTuple
  obtain ⟨hp, g, d, t, os⟩ := s
  unfold excMatches
  cases b
  all_goals
    repeat (first | (with_reducible refine wpAny_loadPart_at he ?_; rw [hc]) | with_reducible refine wpAny_loadPart_at hD ?_ | (with_reducible refine wpAny_isSubtype_exc hD ?_; rw [cb]) | (with_reducible refine wpAny_isSubtype_exc hC ?_; rw [cc]) | wp_step)
    exact h
end
end L2

namespace L2
open PySem PySem.Spec PyProof.Rows
/-! ### try, except C as n: the suite hands back -/
/-- the body of an except -/
def Cx.suite (X : Cx) (x : Addr) : Cx := { X with A := X.A.mark (some (.ref x)), calm := false }
section
variable {X : Cx} {pins : List (Addr × Obj)} {σ : St} {H : Hp} {s : Shared}
theorem Inv.suite (x : Addr) (I : Inv X pins σ H s) : Inv (X.suite x) pins σ H s :=
  ⟨⟨I.ok.mod, I.ok.kind, I.ok.glob, I.ok.blt, I.ok.above, I.ok.inj, I.ok.has, I.ok.cab, fun z => absurd (show false = true from z) (by decide), I.ok.frames, I.ok.stk, I.ok.exf, I.ok.bs, I.ok.bsz, I.ok.noex, I.ok.exfs, I.ok.funs, I.ok.frf⟩, I.os, I.bare, I.base, I.loc, I.cell, I.free, I.freeC, I.pin, I.hok, I.len⟩
theorem Inv.trackO {x : Addr} {o : HO} (I : Inv X pins σ H s) (hx : H x = none) (hs0 : X.s₀.heap.get? x = none) (nl : x ≠ X.env.locals) (nc : ∀ y c, X.env.cells.lookup y = some c → c ≠ x) (np : ∀ p ∈ X.pn ++ pins, p.1 ≠ x) (ok : ObjOk X.prog X.w (upd H x o) s.heap x o) : Inv X pins σ (upd H x o) s := by
  have ne : ∀ b u, H b = some u → b ≠ x := fun b u e => ne_of_none e hx
  refine ⟨I.ok, I.os, I.bare, ⟨I.base.keep, I.base.slot, fun b o' q n hx' => ?_, I.base.there, fun b xs q => ?_, fun b o' u q => ?_, fun b ps q => ?_⟩, I.loc, I.cell, ?_, fun y c e => ?_, fun p hp => ?_, fun b u e => ?_, I.len⟩
  · rw [upd_ne (fun z => by rw [z, hs0] at q; cases q)]; exact I.base.free b o' q n hx'
  · have := I.base.tups b xs q; rw [upd_ne (ne _ _ this)]; exact this
  · have := I.base.frzs b o' u q; rw [upd_ne (ne _ _ this)]; exact this
  · obtain ⟨more, this⟩ := I.base.tbls b ps q; exact ⟨more, by rw [upd_ne (ne _ _ this)]; exact this⟩
  · rw [upd_ne nl.symm]; exact I.free
  · rw [upd_ne (nc y c e)]; exact I.freeC y c e
  · obtain ⟨h1, h2, h3⟩ := I.pin p hp
    exact ⟨h1, by rw [upd_ne (np p hp)]; exact h2, h3⟩
  · by_cases hb : b = x
    · subst hb; rw [upd_same] at e; cases e; exact ok
    · rw [upd_ne hb] at e
      exact (I.hok b u e).stay (fun _ _ _ q => q) (fun c q => by rw [upd_ne (ne _ _ q)]; exact q) fun c xs q => by rw [upd_ne (ne _ _ q)]; exact q
/-- del n -/
theorem del_ok {M : Model} {A : Around} {E : Value → Shared → Prop} {i : Nat} {n : Str} {v : V} {Q : Unit → Shared → Prop} (I : Inv X pins σ H s) (hN : X.N.Nodup) (hi : X.N[i]? = some n) (hlo : X.env.scope.names.lookup n = some .local) (hv : σ[i]? = some (some v))
    (h : ∀ s', Inv X pins (σ.set i none) H s' → Q () s') : wpAny M A (unbindName X.env n) Q E s := by
  obtain ⟨m, hn, hl⟩ := id I.loc
  have hm : ∃ u, m n = some u := by
    obtain ⟨u, _, lk⟩ := hl i n v hi hv (.inl hlo)
    rcases lk with ⟨_, e⟩ | ⟨hk, _⟩
    · exact ⟨u, e⟩
    · have hk' : X.env.kindOf n = some .local := hlo
      rw [hk'] at hk
      rcases hk with hk | hk <;> cases hk
  obtain ⟨u, hu⟩ := hm
  have lt0 : ∀ b o, X.s₀.heap.get? b = some o → b ≠ X.env.locals := fun b o q => Nat.ne_of_lt (Nat.lt_of_lt_of_le (Heap.lt_size q) I.ok.above)
  refine wpAny_unbindName_local hlo hn hu (by rw [I.ok.kind]; rfl) fun h' u' hn' sb => h _ ?_
  have oth : ∀ b o, b ≠ X.env.locals → s.heap.get? b = some o → h'.get? b = some o := fun b o nb q => (sb.2 b nb).trans q
  refine ⟨I.ok, I.os, I.bare, ⟨fun b o q n' hb hx => oth b o (lt0 b o q) (I.base.keep b o q n' hb hx), fun b o q n' hb hx => ?_, I.base.free, fun b o q hx => ?_, I.base.tups, I.base.frzs, I.base.tbls⟩, ⟨_, hn', fun j y w e1 e2 e3 => ?_⟩, fun y c e => ?_, I.free, I.freeC, fun p hp => ?_, fun b ob e => ?_, by rw [List.length_set]; exact I.len⟩
  · obtain ⟨sl, q1⟩ := I.base.slot b o q n' hb hx
    exact ⟨sl, oth b _ (lt0 b o q) q1⟩
  · obtain ⟨o1, q1⟩ := I.base.there b o q hx
    exact ⟨o1, oth b _ (lt0 b o q) q1⟩
  · have hj : j ≠ i := fun z => by
      subst z
      rw [List.getElem?_set_self (by rw [I.len]; exact (List.getElem?_eq_some_iff.mp hi).1)] at e2
      cases e2
    rw [List.getElem?_set_ne (Ne.symm hj)] at e2
    obtain ⟨u2, r2, lk⟩ := hl j y w e1 e2 e3
    refine ⟨u2, r2, ?_⟩
    rcases lk with ⟨hk, e⟩ | ⟨hk, c, hc, o, ho, hd⟩
    · refine .inl ⟨hk, ?_⟩
      have ny : ¬ y = n := fun z => hj (nodup_ix hN e1 (by rw [z]; exact hi))
      show (if y = n then u' else m y) = some u2
      rw [if_neg ny]
      exact e
    · exact .inr ⟨hk, c, hc, o, oth c o (I.cne y c hc) ho, hd⟩
  · obtain ⟨w, o, ho, hd⟩ := I.cell y c e
    exact ⟨w, o, oth c o (I.cne y c e) ho, hd⟩
  · obtain ⟨h1, h2, h3, h4⟩ := I.pin p hp
    exact ⟨oth _ _ h3 h1, h2, h3, h4⟩
  · refine (I.hok b ob e).stay (fun c w hc q => oth c w (fun z => ?_) q) (fun _ q => q) fun _ _ q => q
    have fr := I.free
    rcases hc with hc | hc
    · rw [← hc, z, fr] at e; cases e
    · rw [z, fr] at hc; cases hc
end
end L2

namespace L2
open PySem PySem.Spec PyProof.Rows
theorem entry_unchain : entryFor table "proto.unchain" = some Builtin.«proto.unchain» := entryFor_of_tree (by kernel_rfl)
theorem plain_unchain : plainId "proto.unchain" = true := by decide +kernel
section
variable {prog : Program} {w : World} {A : Around} {E : Value → Shared → Prop} {env : Env}
variable {nm q : Str} {C N : Addr} {bs bm : List Value} {hdct : Bool} {sn : List Str} {sub : List Value} {ab : Bool} {col : Option Bool} {dd : Option Addr} {k0 k1 k2 k3 k5 : Option Value} {newId : String}
theorem raise_from {s : Shared} {x : Sem Value} {c : Sem Value} {y : Addr} {Q : Flow → Shared → Prop} (hbase : bm.contains (.type "BaseException") = true) (hh : A.handled = some (.ref y))
    (h : wpAny (model prog w) A x (fun v s₁ => ∃ e t, v = .ref e ∧ e ≠ y ∧ s₁.heap.get? C = some (excClassObj nm q C N bs bm hdct sn sub ab col dd k0 k1 k2 k3 k5 newId) ∧
      s₁.heap.get? e = some { cls := .ref C, data := .fields #[.ref t, .none, .none, .none, .bool false, .none] } ∧ (∃ oy vs, s₁.heap.get? y = some oy ∧ oy.data = .fields vs ∧ vs[2]? = some Value.none) ∧
      wpAny (model prog w) A c (fun v s₂ => v = .none ∧ s₂ = s₁) E s₁ ∧
      ∀ h', (∀ b, b ≠ e → h'.get? b = s₁.heap.get? b) → h'.get? e = some { cls := .ref C, data := .fields #[.ref t, .none, .ref y, .none, .bool true, .none] } → E (.ref e) { s₁ with heap := h' }) E s) :
    wpAny (model prog w) A (raiseStmt env (some x) (some c)) Q E s := by
  have hcB : (Value.ref C :: bm).contains (.type "BaseException") = true := by rw [List.contains_cons, hbase, Bool.or_true]
  unfold raiseStmt
  refine wpAny_bind (wpAny_mono h (fun v s₁ h₁ => ?_) fun _ _ x => x)
  obtain ⟨e, t, rfl, hey, hC, he, ⟨oy, vs, hy, hdy, h2⟩, hc, hE⟩ := h₁
  refine wpAny_bind (wpAny_holding (wpAny_mono hc (fun v s₂ hv => ?_) fun _ _ x => x))
  obtain ⟨rfl, rfl⟩ := hv
  obtain ⟨hp, g, d, tk, os⟩ := s₂
  repeat (first | with_reducible refine wpAny_loadPart_at he ?_ | with_reducible refine wpAny_loadPart_at hC ?_ | (with_reducible refine wpAny_isSubtype_exc hC ?_; rw [hcB]) | wp_step)
  have hCe : C ≠ e := fun z => by
    rw [z, he] at hC
    injection hC with hC
    injection hC with _ _ hC
    cases hC
  have e3 := Heap.get?_update_self (Obj.mapFields fun x => x.setIfInBounds 3 Value.none) he (by rfl)
  have e4 := Heap.get?_update_self (Obj.mapFields fun x => x.setIfInBounds 4 (Value.bool true)) e3 (by rfl)
  have oth : ∀ b, b ≠ e → ((hp.update e (Obj.mapFields fun x => x.setIfInBounds 3 Value.none)).update e (Obj.mapFields fun x => x.setIfInBounds 4 (Value.bool true))).get? b = hp.get? b := fun b n => by
    rw [Heap.get?_update_other _ _ (Ne.symm n), Heap.get?_update_other _ _ (Ne.symm n)]
  have hC4 := (oth C hCe).trans hC
  have hy4 := (oth y (Ne.symm hey)).trans hy
  generalize hgen : (hp.update e (Obj.mapFields fun x => x.setIfInBounds 3 Value.none)).update e (Obj.mapFields fun x => x.setIfInBounds 4 (Value.bool true)) = h4 at e4 oth hC4 hy4 ⊢
  refine wpAny_loadPart_at hC4 (wpAny_pure ?_)
  rw [if_pos (by rfl)]
  refine wpAny_pure ?_
  unfold setFlight
  refine wpAny_bind (wpAny_bind (wpAny_field e4 rfl (x := Value.none) rfl ?_))
  rw [if_neg (by decide)]
  refine wpAny_pure ?_
  unfold raiseNew
  refine wpAny_bind (wpAny_handled ?_)
  rw [hh]
  dsimp only
  have hne : (Value.ref y != Value.ref e) = true := by simp [Ne.symm hey]
  rw [if_pos hne]
  refine wpAny_bind (wpAny_holding (wpAny_runValue (codeAny_builtin entry_unchain ?_)))
  rw [Around.under_plainId plain_unchain _]
  unfold Builtin.«proto.unchain»
  refine wpAny_bind (wpAny_field hy4 hdy h2 ?_)
  rw [if_pos (by rfl)]
  refine wpAny_pure ?_
  show wpAny _ _ (setField (.ref e) 2 (.ref y) >>= fun _ => throw (.ref e)) Q E _
  refine wpAny_bind (wpAny_setField e4 rfl (by simp) (wpAny_throw (hE _ (fun b n => ?_) ?_)))
  · rw [Heap.get?_update_other _ _ (Ne.symm n)]; exact oth b n
  · exact Heap.get?_update_self (Obj.mapFields fun x => x.setIfInBounds 2 (Value.ref y)) e4 (by rfl)
end
section
variable {X : Cx} {E : XK}
theorem ps_try_raise {st : Stmt} {tb : Ends → St → Hp → XK → Prop} {d y msg : Str} {np hpos pos cpos rpos np2 p p2 : Pos} {j j2 : Nat} {D C2 : Addr} (bd : Body X) (xe : XE X X.prog X.w E) (hb : PSX X st tb) (gd : XC X.K X.mg d D) (gy : XC X.K X.mg y C2)
    (hgl : Gl X d := by rfl) (hgy : Gl X y := by rfl) (hdd : (d == ("__debug__" : Str)) = false := by decide) (hdy : (y == ("__debug__" : Str)) = false := by decide) :
    PS X (.Try [st] [.ExceptHandler (some (.Name d np)) none [.Raise (some (.Call (.Name y np2) [.Constant (.str msg) j p] [] cpos)) (some (.Constant .none j2 p2)) rpos] hpos] [] [] pos)
      (fun D' σ H => tb D' σ H (fun cv o H' => ∃ C, cv = .ref C ∧ o = none ∧ PySem.W.excIn X.K C bmV "ValueError.__new__" = true ∧ subIn X.K C D = true ∧ ∀ x, E (.ref C2) (some x) H')) := by
  intro pins s σ H D' I h
  refine wpAny_Try_except (wpAny_execs_cons (wpAny_mono (hb pins s σ H D' _ I h) (fun f s1 q => ?_) (fun ev s1 he => ?_)))
  · cases f with
    | next => exact wpAny_execs_nil (wpAny_execs_nil q)
    | brk => exact q
    | cont => exact q
    | ret u => exact q
  obtain ⟨x, C, H', B, o, Hc, sc, rfl, I', hx, fl, cH, Ic, c, ck, C', eC, rfl, qC, hsub, rd⟩ := he
  cases eC
  have fr1 : X.A.frames = some (X.env :: X.outer) := by rw [I.ok.frames, bd.stk]
  have fl' := fl
  rw [bd.stk] at fl'
  refine note_on fr1 bd.fr fl' fun h4 hel4 up4 => ?_
  refine lands hel4 fun h5 fl5 up5 => ?_
  have I5 := inv_fly (t' := s1.toks) I' bd Ic c cH fl.1 fl5.1 (up4.trans up5)
  obtain ⟨_, _, _, oe, vs, _, _, _, he5, hc5, _⟩ := id fl5
  refine wpAny_handleBy_cons (codeAny_handlers_test (ld_glob (X := X.suite x) (I5.suite x) hgl gd.g ?_ hdd)) (by intro z; cases z)
  refine matches_own I5.kIn qC gd.ex hsub he5 hc5 ?_
  refine codeAny_handlers_suite ?_
  refine lands2 fl5 fun h6 fl6 up6 => ?_
  have I6 := inv_fly (t' := s1.toks) I' bd Ic c cH fl.1 fl6.1 ((up4.trans up5).trans up6)
  have hE : PassesOwnAt (model X.prog X.w) (X.A.mark (some (.ref x))) X.A X.env X.xe := by rw [xe]; exact PassesOwnAt.leaving
  refine wpAny_passesOwnAt hE (wpAny_execs_cons ?_)
  rw [arm_exec_Raise]
  refine wpAny_bind (wpAny_standAt ?_)
  obtain ⟨bm, N, nm, q, bs, hdct, sn, sub, ab, col, dd, k0, k1, k2, k3, k5, mN, hC, hN, hni, T, _⟩ := exc_obj I6.kIn gy.ex
  obtain ⟨_, _, _, ox, ws, _, _, _, hx6, _, hd6, hx2, _⟩ := id fl6
  simp only [evalOpt, Option.map]
  refine raise_from (C := C2) (nm := nm) (q := q) (N := N) (bs := bs) (bm := bm) (hdct := hdct) (sn := sn) (sub := sub) (ab := ab) (col := col) (dd := dd) (k0 := k0) (k1 := k1) (k2 := k2) (k3 := k3) (k5 := k5) (newId := "ValueError.__new__") (y := x) (T.hasType PySem.F.excBase_ValueError.hasBase) rfl ?_
  refine wpAny_bind (wpAny_mono (Q := fun v s₃ => ∃ e t, v = .ref e ∧ (∀ b o, h6.get? b = some o → s₃.heap.get? b = some o) ∧ h6.get? e = none ∧ s₃.heap.get? e = some { cls := .ref C2, data := .fields #[.ref t, .none, .none, .none, .bool false, .none] } ∧ s₃.gens = s1.gens ∧ s₃.drawn = s1.drawn ∧ s₃.os = s1.os) (wpAny_Call_ofName ?_) (fun v s₃ q3 => wpAny_bind (wpAny_standAt (wpAny_pure ?_))) fun _ _ z => z)
  · refine ld_glob (X := X.suite x) (I6.suite x) hgy gy.g ?_ hdy
    unfold callWith
    refine wpAny_bind (wpAny_holding (Calls.evalArgs_plain (Calls.spliced_cons (Calls.Constant_str (k := j) (pos := p) (Calls.spliced_nil ?_)))))
    refine wpAny_bind (wpAny_standAt ?_)
    refine wpAny_bind (wpAny_keeperOf_exc hC ?_)
    refine wpAny_bind (wpAny_call_exc_subT PySem.F.excBase_ValueError T hC hN hni fun h' e hm => wpAny_bind (wpAny_holding (wpAny_point (wpAny_pure ?_))))
    obtain ⟨t, ht, _, _⟩ := hm.there
    exact ⟨e, t, rfl, hm.keeps, hm.new, ht, rfl, rfl, rfl⟩
  · obtain ⟨e, t, rfl, kp, nw, he, g3, d3, o3⟩ := q3
    refine ⟨e, t, rfl, (fun z => by rw [z, hx6] at nw; cases nw), kp _ _ hC, he, ⟨ox, ws, kp _ _ hx6, hd6, hx2⟩, ?_, fun h' oth he' => ?_⟩
    · exact wpAny_bind (wpAny_Constant_none (wpAny_bind (wpAny_standAt (wpAny_pure ⟨rfl, rfl⟩))))
    · obtain ⟨h3, g3', d3', t3, o3'⟩ := s₃
      subst g3 d3 o3
      exact newX (s := { heap := h6, gens := s1.gens, drawn := s1.drawn, toks := s1.toks, os := s1.os }) (tk := t3) (o := some x) bd xe I6 (fun b o q => (oth b (fun z => by rw [z, nw] at q; cases q)).trans (kp b o q)) nw he' rfl rfl rfl rfl (fun a ea => by cases ea; exact ⟨hx, ox, ws, hx6, hd6, hx2⟩) (rd x)
end
end L2

namespace L2
open PySem PySem.Spec PySem.Calls PyProof.Rows PySem.W PySem.Builtin PySem.Builtin.ObjectAttr PySem.Builtin.Getset_descriptor
/-- what isinstance asks of an own class of exceptions -/
structure ExcCls (K : PySem.W.Frag) (C : Addr) : Prop where
  ga : PySem.W.findIn K (.ref C) "__getattribute__" = some (some (.builtin "BaseException.__getattribute__"))
  gt : PySem.W.findIn K (.ref C) "__getattr__" = some none
  cl : PySem.W.findIn K (.ref C) "__class__" = some (some (.builtin "object.__class__"))
  mb : PySem.W.mroIn K C (.type "BaseException") = some true
  mo : PySem.W.mroIn K C (.type "object") = some true
  is : (PySem.W.clsIn K C).isSome = true
def XAt (x C : Addr) (h : Heap) : Prop := ∃ o vs, h.get? x = some o ∧ o.cls = .ref C ∧ o.data = .fields vs
theorem XAt.type {M : Model} {h : Heap} {x C : Addr} (I : XAt x C h) : PySem.W.Looks M h (typeOf (.ref x)) (.ref C) := by
  obtain ⟨o, vs, h1, h2, _⟩ := I
  exact h2 ▸ (PySem.W.Looks.ld h1).andThen .now
section
variable {prog : Program} {w : World} {A : Around} {E : Value → Shared → Prop} {s : Shared} {K : PySem.W.Frag} {x C : Addr}
theorem exc_class_get {tp : Value} {R : Result → Shared → Prop} (X : K.In s.heap) (I : XAt x C s.heap) (hm : PySem.W.mroIn K C (.type "object") = some true)
    (h : R (.ok (.ret (.ref C))) s) : codeAny (model prog w) A (.call (.builtin "getset_descriptor.__get__") ⟨[.builtin "object.__class__", .ref x, tp], []⟩) R s := by
  obtain ⟨hh, g, dr, t, os⟩ := s
  have L0 := I.type (M := model prog w)
  have L1 := PySem.W.looks_mroIn (M := model prog w) X hm
  refine codeAny_call_builtin PySem.W.KF.slot_gs.plain PySem.W.KF.entry_gs (PySem.W.KF.slot_gs.check _ _ _ _ _ _ _ _ PySem.W.KF.type_class (PySem.W.KF.args_gs _ _ _) ?_)
  unfold Builtin.«getset_descriptor.__get__» descrGet
  rw [PySem.W.dga_obj]
  refine wpAny_bind (wpAny_pure ?_)
  unfold descrGetter descrCheckInstance descrNameAndClass isInstance
  simp only [PySem.W.KF.owner_class]
  repeat lk
  refine ⟨Code.quiet_builtin _ (by decide +kernel), codeAny_builtin PySem.W.KF.entry_class ?_⟩
  unfold Builtin.«object.__class__» shownTypeOf
  repeat lk
  exact h
theorem exc_class_entry {tk : Tok} {Q : Fin → Shared → Prop} (c : ExcCls K C) (X : K.In s.heap) (I : XAt x C s.heap) (hq : Q (.done (.ret (.ref C))) s) :
    wpAny (model prog w) A (Builtin.«object.__getattribute__» ⟨[.ref x, .str "__class__" tk], []⟩) Q E s := by
  have hT5 : s.TypeIs (.builtin "object.__class__") "getset_descriptor" := F.typeOf_object_class
  have f5 := F.typeOf_object_class
  have f6 := F.slot_gs_get.lookup
  have f7 := F.slot_gs_set.lookup
  have L0 := I.type (M := model prog w)
  have L1 := PySem.W.looks_findIn (M := model prog w) X c.cl
  obtain ⟨h, g, d, t, os⟩ := s
  repeat (any_goals (first | assumption | with_reducible refine PySem.W.Looks.at L0 ?_ | with_reducible refine PySem.W.Looks.at L1 ?_ | wp_step))
  refine exc_class_get X I c.mo ?_
  repeat (any_goals (first | assumption | wp_step))
theorem exc_check_ga {M : Model} {nameV : Value} {Q : Unit → Shared → Prop} (c : ExcCls K C) (X : K.In s.heap) (I : XAt x C s.heap) (hq : Q () s) : wpAny M A (checkBuiltinCall "BaseException.__getattribute__" ⟨[.ref x, nameV], []⟩) Q E s := by
  have hk : builtinKind "BaseException.__getattribute__" = some .slot := by decide +kernel
  have hsplit : splitId "BaseException.__getattribute__" = some ("BaseException", "__getattribute__") := by decide +kernel
  have ha := F.args_bexc_ga (.ref x) nameV
  have L0 := I.type (M := M)
  have L1 := PySem.W.looks_mroIn (M := M) X c.mb
  obtain ⟨h, g, d, t, os⟩ := s
  simp only [checkBuiltinCall, hk, hsplit]
  refine wpAny_bind ?_
  · unfold isInstance
    repeat (first | with_reducible refine PySem.W.Looks.at L0 ?_ | with_reducible refine PySem.W.Looks.at L1 ?_ | wp_step)
    exact hq
theorem exc_class_call {tk : Tok} {R : Result → Shared → Prop} (c : ExcCls K C) (X : K.In s.heap) (I : XAt x C s.heap) (hq : R (.ok (.ret (.ref C))) s) :
    codeAny (model prog w) A (.call (.builtin "BaseException.__getattribute__") ⟨[.ref x, .str "__class__" tk], []⟩) R s :=
  codeAny_call_builtin F.attrBase_ValueError.ga.plain F.entry_bexc_ga (exc_check_ga c X I (exc_class_entry c X I hq))
theorem exc_class_by {tk : Tok} {fill expr : Bool} {Q : Value → Shared → Prop} (c : ExcCls K C) (X : K.In s.heap) (I : XAt x C s.heap) (hq : Q (.ref C) s) :
    wpAny (model prog w) A (getAttrBy (.ref x) (.str "__class__" tk) fill expr) Q E s := by
  have f3 := F.attrBase_ValueError.ga.bind (.ref x)
  have hx0 : (expr && onTheHeap (Value.builtin "BaseException.__getattribute__")) = false := by cases expr <;> rfl
  have hx2 : (Value.builtin "BaseException.__getattribute__" == Value.builtin "object.__getattribute__") = false := by decide +kernel
  have hx1 : (onTheHeap (Value.ref C) && Value.builtin "BaseException.__getattribute__" == Value.builtin "object.__getattribute__") = false := by rw [hx2]; rfl
  have L0 := I.type (M := model prog w)
  have L1 := PySem.W.looks_findIn (M := model prog w) X c.ga
  have L2 := PySem.W.looks_findIn (M := model prog w) X c.gt
  obtain ⟨h, g, d, t, os⟩ := s
  repeat (any_goals (first | assumption | with_reducible refine PySem.W.Looks.at L0 ?_ | with_reducible refine PySem.W.Looks.at L1 ?_ | with_reducible refine PySem.W.Looks.at L2 ?_ | wp_step))
  refine exc_class_call c X I ?_
  repeat (any_goals (first | assumption | wp_step))
theorem exc_class_attr {Q : Option Value → Shared → Prop} (c : ExcCls K C) (X : K.In s.heap) (I : XAt x C s.heap) (hq : Q (some (.ref C)) { s with toks := s.toks + 1 }) : wpAny (model prog w) A (getAttr? (.ref x) "__class__") Q E s := by
  obtain ⟨h, g, d, t, os⟩ := s
  unfold getAttr? getAttrBy?
  refine wpAny_bind (wpAny_mkText (wpAny_bind (wpAny_attempt (exc_class_by (s := ⟨h, g, d, t + 1, os⟩) c X I ?_))))
  exact wpAny_pure hq
theorem kitx_exc (c : ExcCls K C) : PySem.W.KitX K (.ref x) (.ref C) (XAt x C) where
  ty := fun _ _ _ I => I.type
  it := fun _ _ X _ => by
    have hcD := c.is
    unfold PySem.W.clsIn at hcD
    split at hcD
    · rename_i c' d' cd' sl' ho
      intro A' Q' E' s' k q
      unfold isType loadHead
      exact wpAny_bind (wpAny_loadPart (k _ _ (X _ _ ho)) (wpAny_pure q))
    · cases hcD
  ne := fun h tp dd its n sl X htp => by
    have hcD := c.is
    refine Bool.eq_false_iff.mpr fun q => ?_
    have e : C = tp := Value.ref.inj (beq_iff_eq.mp q)
    subst e
    unfold PySem.W.clsIn at hcD
    split at hcD
    · rename_i c' d' cd' sl' ho
      have z := (X _ _ ho).symm.trans htp
      cases z
    · cases hcD
  ca := fun X I k => exc_class_attr c X I k
end
section
variable {X : Cx} {pins : List (Addr × Obj)} {σ : St} {H : Hp} {s : Shared}
def offA (A : Around) : Around := { A with handled := none }
end
/-- a def that is called while an exception is handled -/
structure FnOkH (P : Program) (w : World) (K : PySem.W.Frag) (mg : Str → Option Value) (base : Heap) (k : Nat) (f : Addr) (fd : FuncData) (ps : List Str) (sp : Sp) : Prop where
  len : ∀ vs H Q E, sp vs H Q E → vs.length = ps.length
  run : ∀ (A : Around) (outer : List Env) (s : Shared) (H : Hp) (args : Args) (us : List Value) (vs : List V) (Q : VK) (E : XK), Room k (offA A) → Env0 P w K mg base A outer s H → BindsTo s fd args (ps.zip us) → Vals vs us → sp vs H Q E →
    codeAny (model P w) A (.call (.ref f) args) (CR CX0 outer P w H s Q E) s
section
variable {P : Program} {w : World} {K : PySem.W.Frag} {mg : Str → Option Value} {base : Heap}
end
section
variable (P : Program) (w : World) (K : PySem.W.Frag) (mg : Str → Option Value) (base : Heap) (k : Nat)
end
section
variable {X : Cx} {k : Nat} {x m : Str} {C : Addr} {ps : List Str} {sp : Sp} {p pos apos : Pos} {e o : Expr} {es : List Expr} {ta : TE} {t : TA}
end
end L2

namespace L2
open PySem PySem.Spec PyProof.Rows
/-! ### a function in a name: written, or made on the way -/
def Fnal (K : PySem.W.Frag) (H : Hp) (f : Addr) : Prop := PySem.W.keepIn K (.ref f) = true ∨ ∃ φ, H f = some (.ext φ) ∧ ∀ h, φ h → PySem.W.FnAt f h
def Callee (P : Program) (w : World) (K : PySem.W.Frag) (mg : Str → Option Value) (base : Heap) (k : Nat) (f : Addr) (vs : List V) (H : Hp) (Q : VK) (E : XK) : Prop :=
  ∀ (A : Around) (outer : List Env) (s : Shared) (us : List Value), Room k A → Env0 P w K mg base A outer s H → Vals vs us → codeAny (model P w) A (.call (.ref f) ⟨us, []⟩) (CR (CX1 P w) outer P w H s Q E) s
theorem Callee.of {P : Program} {w : World} {K : PySem.W.Frag} {mg : Str → Option Value} {base : Heap} {k : Nat} {f : Addr} {fd : FuncData} {ps : List Str} {sp : Sp} {vs : List V} {H : Hp} {Q : VK} {E : XK} (F : FnOk P w K mg base (CX1 P w) k f fd ps sp) (hb : Binds K fd ps []) (h : sp vs H Q E) : Callee P w K mg base k f vs H Q E := by
  intro A outer s us hr e0 hv
  have hl : (us ++ []).length = ps.length := by rw [List.append_nil, ← hv.length]; exact F.len _ _ _ _ h
  have KX : K.In s.heap := e0.mod.kin.keeps fun b o e => (e0.bs b o e).1
  have hb' := hb s us KX hl
  rw [List.append_nil] at hb'
  exact F.run A outer s H ⟨us, []⟩ us vs Q E hr e0 hb' hv h
section
variable {X : Cx} {k : Nat} {x m : Str} {p pos apos : Pos} {e o : Expr} {es : List Expr} {t : TA}
theorem px_ask {i : Nat} (hN : X.N[i]? = some x) (hv : Vis X.env.scope x) (hr : Room k X.A) (ha : ∀ xe, PA (X.catch xe) (e :: es) t) (hd : (x == ("__debug__" : Str)) = false := by decide) (hcd : (x == ("__classdict__" : Str)) = false := by decide)
    (he : starEach (e :: es) X.env = (false, eval e X.env) :: starEach es X.env := by rfl) (hpl : (backTo pos (starEach es X.env)).any (·.1) = false := by rfl) :
    PX X (.Call (.Name x p) (e :: es) [] pos) (fun σ H Q E => ∃ f, σ[i]? = some (some (.ref f)) ∧ t σ H fun vs H1 => Fnal X.K H1 f ∧ Callee X.prog X.w X.K X.mg X.base k f vs H1 Q E) := by
  intro pins s σ H Q E I h
  obtain ⟨f, hf, h⟩ := h
  refine wpAny_Call_Name_kw ?_
  refine wpAny_mono (pe_var (X := X.catch (XP X pins σ E)) (i := i) hN hv hd hcd pins s σ H (fun v H1 => v = .ref f ∧ H1 = H) I.catch ⟨_, hf, rfl, rfl⟩) (fun u s1 h1 => ?_) fun _ _ z => z
  obtain ⟨v, H1, I1, rv, e1, e2⟩ := h1
  subst e1 e2
  cases rv
  rw [he]
  refine PySem.W.callWith_of (P := fun h => ∃ k, (k = Keeper.frame ∨ k = Keeper.machine ∨ k = Keeper.boundFrame) ∧ PySem.W.Looks (model X.prog X.w) h (keeperOf (.ref f)) k) (by show ((false || (backTo pos (starEach es X.env)).any (·.1)) || false) = false; rw [hpl]; rfl) (fun _ z => z) ?_
  have h2 := ha (XP X pins σ E) pos pins s1 σ H1 _ I1 h
  have h2 : wpAny (model X.prog X.w) X.A (spliced (backTo pos (starEach (e :: es) X.env))) _ (XP X pins σ E) s1 := h2
  rw [he] at h2
  refine Calls.evalArgs_plain (wpAny_mono h2 (fun us s2 hq => ?_) fun _ _ z => z)
  obtain ⟨vs, H2, I2, r, fn, q⟩ := hq
  refine ⟨?_, ?_⟩
  · rcases fn with hk | ⟨φ, e, hφ⟩
    · exact PySem.W.keeps_K hk _ I2.uncatch.kIn
    · obtain ⟨hX, _⟩ := (show ObjOk X.prog X.w H2 s2.heap f (.ext φ) from I2.hok f _ e)
      exact PySem.W.keeps_F _ (hφ _ hX)
  · have I3 := I2.uncatch
    refine wpAny_call (codeAny_mono (q X.A X.stack s2 us hr I3.env0 r) fun r s' hq => ?_)
    cases r with
    | error e =>
      obtain ⟨x, C, H', B, o, rfl, os, bare, un, hok, hx, fl, cH, c, ck, he⟩ := hq
      exact ⟨x, C, H', B, o, H2, s2, rfl, I3.call' os un hok bare (fun b z => absurd z (by simp)), hx, fl, cH, I3, c, ck, he⟩
    | ok fl =>
      cases fl with
      | ret u => exact I3.after hq
      | next => exact False.elim hq
      | brk => exact False.elim hq
      | cont => exact False.elim hq
end
end L2

namespace L2
open PySem PySem.Spec PyProof.Rows
/-! ### an exception passes through a comprehension -/
section
variable {M : Model} {A : Around} {E : Value → Shared → Prop} {s : Shared} {B : Heap} {env : Env} {outer l : List Env} {L e : Addr} {c k : Value} {Q : Unit → Shared → Prop}
theorem fl_set {fl : Value} (fr : Option Addr) (hk : B.StaysIn s.heap) (hl : s.heap.FunFrames B l) (ht : Tr s.heap B e c k fl)
    (h : ∀ h' fl', B.StaysIn h' → h'.FunFrames B l → Tr h' B e c k fl' → s.heap.UpToSlots h' → Q () { s with heap := h' }) : wpAny M A (setFlight (.ref e) fr) Q E s := by
  obtain ⟨oe, vs, T, oT, ts, he, hc, hd, h2, h1, nT, hTe, hT, hdT, h3⟩ := ht
  have z3 := (Array.getElem?_eq_some_iff.mp h3).1
  have oth : ∀ b, b ≠ T → (s.heap.update T (Obj.mapFields (·.setIfInBounds 3 (fr.elim .none fun f => rawInt f)))).get? b = s.heap.get? b := fun b n => Heap.get?_update_other _ _ (Ne.symm n)
  have noT : ∀ b o, s.heap.get? b = some o → (∀ ws, o.data ≠ .fields ws) → b ≠ T := fun b o q hn z => by
    rw [z, hT] at q
    cases q
    exact hn ts hdT
  unfold setFlight
  refine wpAny_bind (wpAny_field he hd h1 ?_)
  rw [if_pos (by rfl)]
  refine wpAny_setField hT hdT z3 (h _ (fr.elim .none fun f => rawInt f) (fun b o q => (oth b fun z => by rw [z, nT] at q; cases q).trans (hk b o q)) (hl.of_keeps fun b o q hn => ⟨o, (oth b (noT b o q hn)).trans q, rfl⟩) ?_ fun b o q hn => ⟨o.slots, (oth b (noT b o q hn)).trans q⟩)
  exact ⟨oe, vs, T, _, _, (oth e (Ne.symm hTe)).trans he, hc, hd, h2, h1, nT, hTe, Heap.get?_update_self _ hT (Obj.isFreed_of_fields (Obj.data_mapFields hdT _)), Obj.data_mapFields hdT _, by simp [z3]⟩
theorem pass_any {α : Type} {fl : Value} {what : String} {cenv : Env} {R : α → Shared → Prop} (hk : B.StaysIn s.heap) (hl : s.heap.FunFrames B l) (ht : Tr s.heap B e c k fl)
    (h : ∀ h' fl', B.StaysIn h' → h'.FunFrames B l → Tr h' B e c k fl' → s.heap.UpToSlots h' → E (.ref e) { s with heap := h' }) : wpAny M A (PySem.passOn what (.ref e) cenv : Sem α) R E s := by
  obtain ⟨oe, vs, T, oT, ts, he, hc, hd, h2, h1, nT, hTe, hT, hdT, h3⟩ := id ht
  unfold PySem.passOn
  refine wpAny_bind (wpAny_field he hd h1 ?_)
  rw [if_neg (by simp)]
  refine wpAny_bind (fl_set cenv.frame hk hl ht fun h' fl' x1 x2 x3 x4 => ?_)
  exact wpAny_throw (h h' fl' x1 x2 x3 x4)
theorem leave_any {fl : Value} (hfr : A.frames = some (env :: outer)) (hf : env.frame = some L) (hk : B.StaysIn s.heap) (hen : B.get? e = none) (hl : s.heap.FunFrames B (env :: outer)) (ht : Tr s.heap B e c k fl)
    (h : ∀ h', Fly B outer e c k h' → s.heap.UpToSlots h' → Q () { s with heap := h' }) : wpAny M A (leaving env (.ref e)) Q E s := by
  obtain ⟨oe, vs, T, oT, ts, he, hc, hd, h2, h1, nT, hTe, hT, hdT, h3⟩ := id ht
  unfold leaving noteFrame
  simp only [hf]
  refine wpAny_bind (wpAny_bind (wpAny_field he hd h1 ?_))
  rw [if_pos (by rfl)]
  refine wpAny_bind (wpAny_field hT hdT h3 ?_)
  by_cases hq : (fl == rawInt L) = true
  · rw [if_pos hq]
    refine wpAny_pure ?_
    exact fl_none hk hl ht fun h' x1 x2 x3 x4 => h h' ⟨x1, hen, x2.2.2, x3⟩ x4
  · rw [if_neg hq]
    subst hc
    have oth : ∀ b, b ≠ T → (s.heap.update T (Obj.mapFields (·.setIfInBounds 3 Value.none))).get? b = s.heap.get? b := fun b n => Heap.get?_update_other _ _ (Ne.symm n)
    have noT : ∀ b o, s.heap.get? b = some o → (∀ ws, o.data ≠ .fields ws) → b ≠ T := fun b o q hn z => by
      rw [z, hT] at q
      cases q
      exact hn ts hdT
    refine wpAny_bind (wpAny_setField hT hdT (Array.getElem?_eq_some_iff.mp h3).1 ?_)
    refine en_new (s := { s with heap := s.heap.update T (Obj.mapFields (·.setIfInBounds 3 Value.none)) }) hfr (hl.of_keeps fun b o q hn => ⟨o, (oth b (noT b o q hn)).trans q, rfl⟩) hf ((oth e (Ne.symm hTe)).trans he) (fun b o q => (oth b fun z => by rw [z, nT] at q; cases q).trans (hk b o q)) hen hd (Array.getElem?_eq_some_iff.mp h1).1 h2 fun h' x1 x2 x3 x4 => ?_
    refine fl_none x1 x2 x3 fun g2 y1 y2 y3 y4 => ?_
    exact h g2 ⟨y1, hen, y2.2.2, y3⟩ (Heap.UpToSlots.trans (fun b o q hn => x4 b o ((oth b (noT b o q hn)).trans q) hn) y4)
end
theorem ff_but {C : Addr} {h h3 B : Heap} (sb : Heap.SameBut C h h3) : ∀ {l : List Env}, h.FunFrames B l → (C ∉ frs l) → h3.FunFrames (PySem.W.hideAll B [C]) l
  | [], _, _ => trivial
  | env :: l, ⟨hk, ⟨L, o, hf, hn, ho, hd⟩, hr⟩, hc => by
    have hm : L ≠ C := fun z => hc (List.mem_filterMap.mpr ⟨env, List.mem_cons_self, by rw [hf, z]⟩)
    refine ⟨hk, ⟨L, o, hf, PySem.W.fresh_of_stays (fun b o q => PySem.W.of_hideAll _ q) hn, by rw [sb.2 L hm]; exact ho, hd⟩, ff_but sb hr fun z => hc ?_⟩
    obtain ⟨e, he, hfe⟩ := List.mem_filterMap.mp z
    exact List.mem_filterMap.mpr ⟨e, List.mem_cons_of_mem _ he, hfe⟩
section
variable {X : Cx} {x : Str} {px : Pos} {iter elt : Expr} {ifs : List Expr} {scope : Scope} {pos : Pos} {js : List Nat} {N : List Str} {osc : Scope} {tt : TT} {te : TE} {cl : List (Str × Addr)}
theorem comp_coreX {RR : Value → Addr → Result → Shared → Prop} {E : Value → Shared → Prop} {pins : List (Addr × Obj)} {σ : St} {H2 : Hp} {s2 : Shared} {it : Addr} {fp : List Addr} {tn : Nat → Heap → Prop} {J : It} {P : List V → Hp → Prop}
    (hN : X.N = N) (hsc : X.env.scope = osc) (hcap : capOk N osc scope js = true) (hs1 : scOk osc scope x = true) (hnd : (x :: capN N js).Nodup) (hc : X.calm = true)
    (hin : ∀ D C, C ≠ X.env.locals → X.s₀.heap.objs.size ≤ C → (∀ y c, X.env.cells.lookup y = some c → c ≠ C) → (∀ p ∈ X.pn ++ pins, p.1 ≠ C) → C ∉ frs X.stack → PIf (cxC X scope cl C (x :: capN N js) s2 H2 fp (notedBy (model X.prog X.w) X.A (compEnvC scope cl C X.env) (fun e s' => RR (.ref D) C (.error e) s'))) ifs tt ∧ PE (cxC X scope cl C (x :: capN N js) s2 H2 fp (notedBy (model X.prog X.w) X.A (compEnvC scope cl C X.env) (fun e s' => RR (.ref D) C (.error e) s'))) elt te)
    (I2 : Inv X pins σ H2 s2) (T : Turn X.prog X.w X.K (.Name x px) J fp it tn) (st : tn 0 s2.heap) (f2 : ∀ b ∈ fp, FpOk X pins H2 b)
    (cl1 : ∀ n c, cl.lookup n = some c → X.env.cells.lookup n = some c) (cl2 : ∀ n, (n, NameKind.free) ∈ scope.names → ∃ c, cl.lookup n = some c)
    (h : LcLoop J (capSt σ js) tt te H2 P)
    (hRR : ∀ D C ys H' s', P ys H' → H' D = none → Inv X pins σ (upd H' D (.lst ys)) s' → (∃ m, s'.heap.Ns C m) → C ≠ X.env.locals → X.s₀.heap.objs.size ≤ C → (∀ y c, X.env.cells.lookup y = some c → c ≠ C) → (∀ p ∈ X.pn ++ pins, p.1 ≠ C) →
      (upd H' D (.lst ys)) C = none → RR (.ref D) C (.ok .next) s') :
    wpAny (model X.prog X.w) X.A (newList []) (fun acc s₃ => wpAny (model X.prog X.w) X.A (newFunctionEnv scope X.env.globals cl [] X.env.qual none .none (some X.env)) (fun cenv s₄ =>
      codeAny (model X.prog X.w) X.A (.compStart (.ListComp elt [⟨.Name x px, iter, ifs, 0⟩] scope pos) 0 (.ref it) acc { cenv with scope := relabel scope X.env }) (RR acc cenv.locals) s₄) E s₃) E s2 := by
  unfold scOk at hs1
  simp only [Bool.and_eq_true, beq_iff_eq, List.all_eq_true] at hs1
  obtain ⟨⟨⟨⟨hkind, hcell0⟩, hnames0⟩, hxl⟩, hfr0⟩ := hs1
  have hcell : ∀ y ∈ scope.names, y.2 ≠ .cell := fun y hy e => by
    have := hcell0 y hy
    rw [e] at this
    simp at this
  refine wpAny_newObj_type (wpAny_newFunctionEnv hcell (by intro y hy; simp at hy) (fun h₁ hns₁ hsb₁ => ?_) hkind)
  dsimp only at hns₁ hsb₁ ⊢
  generalize hHp : s2.heap.push { cls := .type "list", dict := none, data := .seq ([] : List Value).toArray } = Hh at hns₁ hsb₁ ⊢
  have hC : Hh.objs.size = s2.heap.objs.size + 1 := by rw [← hHp, Heap.size_push]
  generalize hD : s2.heap.objs.size = D at hC ⊢
  generalize hCC : Hh.objs.size = C at hC hns₁ hsb₁ ⊢
  have hDC : D ≠ C := by omega
  have below : ∀ b o, s2.heap.get? b = some o → b < D := fun b o e => by rw [← hD]; exact Heap.lt_size e
  have old : ∀ b o, s2.heap.get? b = some o → h₁.get? b = some o := fun b o e =>
    hsb₁.extBut b o (Nat.ne_of_lt (by rw [hC]; exact Nat.lt_succ_of_lt (below b o e))) (Heap.get?_push_of_some _ (by rw [← hHp]; exact Heap.get?_push_of_some _ e))
  have hacc : h₁.get? D = some { cls := .type "list", data := .seq ([] : List Value).toArray } :=
    hsb₁.extBut D _ hDC (Heap.get?_push_of_some _ (by rw [← hHp, ← hD]; exact Heap.get?_push_size _ rfl))
  have fpD : ∀ b ∈ fp, b < D := fun b hb => by
    obtain ⟨o, e, _⟩ := T.obj _ _ st b hb
    exact below b o e
  have ltC : ∀ b : Addr, b < D → b ≠ C := fun b hb => Nat.ne_of_lt (by rw [hC]; exact Nat.lt_succ_of_lt hb)
  have hLt : X.env.locals < D := by rw [← hD]; exact I2.lt
  have cellLt : ∀ y c, X.env.cells.lookup y = some c → c < D := fun y c e => by
    obtain ⟨v, q⟩ := I2.cell y c e
    rw [← hD]; exact q.lt
  have frLt : ∀ b, b ∈ frs X.stack → b < D := fun b hb => by
    obtain ⟨_, o, ho, _⟩ := I2.stack.mem hb
    exact below b o ho
  let E' : Value → Shared → Prop := notedBy (model X.prog X.w) X.A (compEnvC scope cl C X.env) (fun e s' => RR (.ref D) C (.error e) s')
  let X' : Cx := cxC X scope cl C (x :: capN N js) s2 H2 fp E'
  have hok : X'.Ok := {
      mod := I2.ok.mod
      kind := hkind
      glob := I2.ok.glob
      blt := I2.ok.blt
      above := by show s2.heap.objs.size ≤ C; omega
      inj := fun a b c e1 e2 => I2.ok.inj a b c (cl1 _ _ e1) (cl1 _ _ e2)
      has := fun y hy => cl2 y (relabel_cf hcell hy)
      cab := fun _ _ e => nomatch e
      hd := I2.ok.hd
      frames := I2.ok.frames
      stk := .inl rfl
      exf := fun b hb => ⟨ltC b (fpD b hb), fun y c e => (f2 b hb).2.2.2.2.1 y c (cl1 _ _ e)⟩
      bs := I2.bs
      bsz := Nat.le_trans I2.ok.bsz I2.sz
      noex := fun b o e hb => by
        rcases (f2 b hb).2.2.2.1 with z | z
        · exact I2.ok.noex b o e z
        · have := Nat.lt_of_lt_of_le (Heap.lt_size e) I2.ok.bsz
          omega
      exfs := fun b hb z => by
        rcases List.mem_cons.mp (I2.stkSub b z) with e | e
        · exact (f2 b hb).2.1 e
        · exact (f2 b hb).2.2.1 e
      funs := I2.stack
      frf := I2.stkFree }
  have hl0 : (none :: capSt σ js : St).length = X'.N.length := by
    show _ = (x :: capN N js).length
    simp [capSt, capN]
  have nC2 : H2 C = none := I2.hok.fresh (by omega)
  have nD2 : H2 D = none := I2.hok.fresh (by omega)
  have I0 : Inv X' [] (none :: capSt σ js) H2 { s2 with heap := h₁, toks := s2.toks + ([] : List (Str × Value)).length } := by
    refine ⟨hok, rfl, I2.bare, Un.kept old, ⟨_, hns₁, fun i y v h1 h2 h3 => ?_⟩, fun y c e => ?_, nC2, fun y c e => I2.freeC y c (cl1 y c e), fun p hp => absurd (show p ∈ ([] : List (Addr × Obj)) from hp) (by simp), I2.hok.kept old, hl0⟩
    · cases i with
      | zero => simp at h2
      | succ i =>
        have h1' : (capN N js)[i]? = some y := by
          have z : (x :: capN N js)[i + 1]? = some y := h1
          simpa using z
        have h2' : (capSt σ js)[i]? = some (some v) := by simpa using h2
        unfold capN at h1'
        unfold capSt at h2'
        rw [List.getElem?_map] at h1' h2'
        cases ej : js[i]? with
        | none => rw [ej] at h1'; cases h1'
        | some j =>
          rw [ej] at h1' h2'
          have e1 : N.getD j Str.empty = y := Option.some.inj h1'
          have e2 : (σ[j]?).getD none = some v := Option.some.inj h2'
          have hσ : σ[j]? = some (some v) := by
            cases q : σ[j]? with
            | none => rw [q] at e2; cases e2
            | some o => rw [q] at e2; rw [show o = some v from e2]
          have hcj := (List.all_eq_true.mp hcap) j (List.mem_of_getElem? ej)
          simp only [Bool.and_eq_true, Bool.or_eq_true, beq_iff_eq, decide_eq_true_eq] at hcj
          obtain ⟨⟨hjl, hok1⟩, hok2⟩ := hcj
          rw [e1] at hok1 hok2
          have hNj : X.N[j]? = some y := by
            rw [hN, ← e1, List.getD_eq_getElem?_getD]
            simp [hjl]
          obtain ⟨m, hm, hl⟩ := I2.loc
          have hvis : Vis X.env.scope y := by
            rw [hsc]
            rcases hok1 with z | z
            · exact .inr (.inl z)
            · exact .inr (.inr z)
          obtain ⟨u, ru, look⟩ := hl j y v hNj hσ hvis
          refine ⟨u, ru, .inr ⟨lookup_relabel_free hok2, ?_⟩⟩
          rcases look with ⟨lk, _⟩ | ⟨_, c, ec, hcl⟩
          · have lk' : X.env.scope.names.lookup y = some .local := lk
            rw [hsc] at lk'
            rcases hok1 with z | z <;> (rw [z] at lk'; cases lk')
          · obtain ⟨c', ec'⟩ := cl2 y (PySem.mem_of_lookup hok2)
            have := cl1 y c' ec'
            rw [ec] at this
            cases this
            exact ⟨c, ec', let ⟨o, ho, hd⟩ := hcl; ⟨o, old c o ho, hd⟩⟩
    · obtain ⟨v, o, ho, hd⟩ := I2.cell y c (cl1 y c e)
      exact ⟨v, o, old c o ho, hd⟩
  have DfsX : D ∉ X'.fs := fun z => absurd (frLt D z) (Nat.lt_irrefl _)
  have Dfp : D ∉ fp := fun z => absurd (fpD D z) (Nat.lt_irrefl _)
  have Dcell : ∀ y c, X'.env.cells.lookup y = some c → c ≠ D := fun y c e => Nat.ne_of_lt (cellLt y c (cl1 y c e))
  have D0 : X'.s₀.heap.objs.size ≤ D := by show s2.heap.objs.size ≤ D; omega
  have fpOk : ∀ {H : Hp} {pl : List (Addr × Obj)}, (∀ b ∈ fp, H b = none) → (∀ p ∈ pl, p.1 ∉ fp) → ∀ b ∈ fp, FpOk X' pl H b := fun {H pl} hn hp b hb => by
    refine ⟨hn b hb, ltC b (fpD b hb), fun z => ?_, .inl hb, fun y c e => (f2 b hb).2.2.2.2.1 y c (cl1 y c e), fun p q => ?_⟩
    · rcases List.mem_cons.mp (I2.stkSub b z) with e | e
      · exact (f2 b hb).2.1 e
      · exact (f2 b hb).2.2.1 e
    · intro e
      rcases List.mem_append.mp q with q | q
      · exact absurd (show p ∈ ([] : List (Addr × Obj)) from q) (by simp)
      · exact hp p q (by rw [e]; exact hb)
  have hif : PIf X' ifs tt := (hin D C (Ne.symm (ltC _ hLt)) (by have := I2.sz; omega) (fun y c e => ltC c (cellLt y c e)) (fun p hp => ltC _ (below _ _ (I2.pin p hp).1)) (fun z => ltC _ (frLt _ z) rfl)).1
  have helt : PE X' elt te := (hin D C (Ne.symm (ltC _ hLt)) (by have := I2.sz; omega) (fun y c e => ltC c (cellLt y c e)) (fun p hp => ltC _ (below _ _ (I2.pin p hp).1)) (fun z => ltC _ (frLt _ z) rfl)).2
  obtain ⟨W, ⟨m0, w0⟩, turn⟩ := h
  have loop : ∀ s₃ : Shared, s₃ = { s2 with heap := h₁, toks := s2.toks + ([] : List (Str × Value)).length } →
      codeAny (model X.prog X.w) X.A (.compLoop (.ListComp elt [⟨.Name x px, iter, ifs, 0⟩] scope pos) 0 (.ref it) (.ref D) (compEnvC scope cl C X.env)) (RR (.ref D) C) s₃ := by
    rintro s₃ rfl
    refine compLoop_any (fun n s' => ∃ i ys its nn H', Inv X' [] (none :: capSt σ js) H' s' ∧ tn i s'.heap ∧ (∀ b ∈ fp, H' b = none) ∧ s'.heap.get? D = some { cls := .type "list", data := .seq (its : List Value).toArray nn } ∧ H' D = none ∧ Vals ys its ∧ W i n ys H') ?_ m0
      ⟨0, [], [], 0, H2, I0, T.keep _ _ _ st fun b _ o e => old b o e, fun b hb => (f2 b hb).1, hacc, nD2, .nil, w0⟩
    rintro n s3 ⟨i, ys, its, nn, H3, I3, st3, fr3, hD3, nD3, rv, w3⟩
    have hlen : ys.length = its.length := rv.length
    let ob : Obj := { cls := .type "list", data := .seq its.toArray nn }
    have nocell : ∀ v, ob.data ≠ .cell v := fun v z => nomatch z
    have I3p : Inv X' [(D, ob)] (none :: capSt σ js) H3 s3 := I3.pins_of fun p hp => by
      have e : p = (D, ob) := by simpa using hp
      subst e
      exact ⟨hD3, nD3, hDC, DfsX, nocell⟩
    have pfp : ∀ p ∈ [(D, ob)], p.1 ∉ fp := fun p hp => by
      have e : p = (D, ob) := by simpa using hp
      subst e
      exact Dfp
    rcases turn i n ys H3 w3 with ⟨stop, hz, q⟩ | ⟨go, hz, Nx, hNx, step⟩
    · refine wpAny_mono (T.done X' rfl rfl rfl hc i [(D, ob)] s3 _ H3 E' I3p (fpOk fr3 pfp) st3 stop) (fun r s4 ⟨hr, I4⟩ => ?_) fun _ _ e => e
      subst hr
      have hD4 : s4.heap.get? D = some ob := (I4.pin (D, ob) (by simp)).1
      have un : Un (frs X.stack) fp H2 H3 s2.heap s4.heap := I4.base
      obtain ⟨m, hm, _⟩ := I4.loc
      have nC3 : H3 C = none := I4.free
      refine hRR D C ys H3 s4 q nD3 ?_ ⟨m, hm⟩ (Ne.symm (ltC _ hLt)) (by have := I2.sz; omega) (fun y c e => ltC c (cellLt y c e)) (fun p hp => ?_) (by rw [upd_ne hDC.symm]; exact nC3)
      · refine I2.call' I4.os (un.track (by omega) nD3) (I4.hok.track nD3 ⟨hz, its, nn, rv, hD4⟩) I4.bare fun b hb => ?_
        obtain ⟨_, a2, _, a4, a5, a6⟩ := f2 b hb
        exact ⟨a4, a2, a5, a6⟩
      · exact ltC _ (below _ _ (I2.pin p hp).1)
    · refine wpAny_mono (T.item X' rfl rfl rfl hc i [(D, ob)] s3 _ H3 E' I3p (fpOk fr3 pfp) st3 go) (fun r s4 ⟨u, hr, h4⟩ => ?_) fun _ _ e => e
      subst hr
      refine wpAny_mono h4 (fun _ s5 ⟨xv, H5, I5, r5, y5, st5, fr5⟩ => ?_) fun _ _ e => e
      have I5' := I5.pinned (fpOk fr5 pfp) (T.obj _ _ st5)
      refine wpAny_assign_Name (store_ok (X := X') (i := 0) (x := x) I5' hnd rfl (.inl (lookup_relabel_local hxl)) r5 (fun s6 I6 => ?_) (.inr (lookup_relabel_local hxl)))
      -- behind the element or the test: the next turn
      have next : ∀ {s7 : Shared} {H7 : Hp}, Inv X' ([(D, ob)] ++ pinsAt fp s5.heap) (some xv :: capSt σ js) H7 s7 →
          Inv X' [] (none :: capSt σ js) H7 s7 ∧ tn (i + 1) s7.heap ∧ (∀ b ∈ fp, H7 b = none) ∧ s7.heap.get? D = some ob ∧ H7 D = none := fun {s7 H7} I7 => by
        have pD := I7.pin (D, ob) (List.mem_append_right _ (List.mem_append_left _ (by simp)))
        refine ⟨(I7.weak (σ' := none :: capSt σ js) (by simp) fun j v e => ?_).pins_of (fun p hp => nomatch hp), T.keep _ _ _ st5 fun b hb o e => (I7.pin (b, o) (List.mem_append_right _ (List.mem_append_right _ (mem_pinsAt hb e)))).1, fun b hb => ?_, pD.1, pD.2.1⟩
        · cases j with
          | zero => simp at e
          | succ j => simpa using e
        · obtain ⟨o, e, d⟩ := T.obj _ _ st5 b hb
          exact (I7.pin (b, o) (List.mem_append_right _ (List.mem_append_right _ (mem_pinsAt hb e)))).2.1
      refine wpAny_mono (hif _ s6 _ H5 _ I6 (step xv H5 y5)) (fun b s7 ⟨H7, I7, q7⟩ => ?_) fun _ _ e => e
      cases b with
      | false =>
        rw [if_neg Bool.false_ne_true] at q7 ⊢
        obtain ⟨m', hm, w7⟩ := hNx ys H7 q7
        obtain ⟨a1, a2, a3, a4, a5⟩ := next I7
        exact ⟨m', hm, i + 1, ys, its, nn, H7, a1, a2, a3, a4, a5, rv, w7⟩
      | true =>
        rw [if_pos rfl] at q7 ⊢
        refine wpAny_mono (helt _ s7 _ H7 _ I7 q7) (fun uv s8 ⟨v, H8, I8, r8, q8⟩ => ?_) fun _ _ e => e
        obtain ⟨m', hm, w8⟩ := hNx _ H8 q8
        obtain ⟨a1, a2, a3, a4, a5⟩ := next I8
        refine call_meets F.slot_list_append ⟨_, a4, rfl⟩ F.entry_list_append (F.args_list_append_2 _ _) (PySem.list_append D its.toArray nn uv (by rw [List.size_toArray]; omega)) ⟨a4, ?_⟩
        have q := PySem.IsL.update a4 (·.push uv)
        have e2 : its.toArray.push uv = (its ++ [uv]).toArray := by simp
        rw [e2] at q
        have kk : ∀ b o, b ≠ D → s8.heap.get? b = some o → (s8.heap.update D (Obj.mapSeq (·.push uv))).get? b = some o := fun b o hb e => (Heap.get?_update_other s8.heap _ (Ne.symm hb)).trans e
        refine ⟨m', hm, i + 1, ys ++ [v], its ++ [uv], _, H8, a1.turned (t' := s8.toks) kk a5 hDC (.inr D0) Dcell (fun p hp => ?_), T.keep _ _ _ a2 fun b hb o e => kk b o (fun z => Dfp (z ▸ hb)) e, a3, q, a5, rv.append (.cons r8 .nil), w8⟩
        · exact absurd (show p ∈ ([] : List (Addr × Obj)) from hp) (by simp)
  exact codeAny_compStart_list (loop _ rfl) (T.self X.A 0 _ _ _ (T.keep _ _ _ st fun b _ o e => old b o e) (loop _ rfl))

theorem passC {E : XK} {use : Option (Value → Sem Unit)} {Qv : Value → Shared → Prop} {N' : List Str} {pins : List (Addr × Obj)} {σ : St} {H2 : Hp} {s2 : Shared} {fp : List Addr} {D C : Addr} (bd : Body X) (xe : XE X X.prog X.w E) (I2 : Inv X pins σ H2 s2) (f2 : ∀ b ∈ fp, FpOk X pins H2 b)
    (hL : C ≠ X.env.locals) (h0 : X.s₀.heap.objs.size ≤ C) (hce : ∀ y c, X.env.cells.lookup y = some c → c ≠ C) (hpi : ∀ p ∈ X.pn ++ pins, p.1 ≠ C) (hfs : C ∉ frs X.stack) :
    Passes (CX1 X.prog X.w) (cxC X scope cl C N' s2 H2 fp (notedBy (model X.prog X.w) X.A (compEnvC scope cl C X.env) (fun e s' => compPost (model X.prog X.w) X.A X.xe use Qv (.ref D) C (.error e) s'))) E := by
  intro pins' σ' H7 s7 e s' I7 h
  obtain ⟨x, Ce, H', B, o, rfl, os, bare, un, hok, hx, fl, cH, c, ck, he⟩ := h
  have Ic : Inv X pins σ H7 s7 := I2.call' I7.os I7.base I7.hok I7.bare fun b hb => by
    obtain ⟨_, a2, _, a4, a5, a6⟩ := f2 b hb
    exact ⟨a4, a2, a5, a6⟩
  have un : Un (frs X.stack) [] H7 H' s7.heap s'.heap := un
  have c : Cov B s7.heap X.stack := c
  have I' : Inv X pins σ H' s' := Ic.call' os un hok bare (fun b z => absurd z (by simp))
  have nC7 : H7 C = none := I7.free
  obtain ⟨m7, hm7, _⟩ := I7.loc
  have hm7 : s7.heap.Ns C m7 := hm7
  obtain ⟨oC, qC⟩ : ∃ oC, s7.heap.get? C = some oC := let ⟨o, _, _, ho, _⟩ := hm7; ⟨o, ho⟩
  have nC' : H' C = none := un.free C oC qC nC7 (by simp)
  have hm' : s'.heap.Ns C m7 := hm7.at fun o q => un.keep C o q nC7 hfs (by simp)
  obtain ⟨oB, qB⟩ := c C oC qC hfs
  show wpAny _ _ (noteFrame (.ref x) X.env) _ _ _
  have hfr : X.A.frames = some (X.env :: X.outer) := by rw [I2.ok.frames, bd.stk]
  have fl : Fly B (X.env :: X.outer) x (.ref Ce) (cxV o) s'.heap := by rw [← bd.stk]; exact fl
  have hfs' : C ∉ frs (X.env :: X.outer) := by rw [← bd.stk]; exact hfs
  refine note_on hfr bd.fr fl fun h2 hel up2 => ?_
  have i2 : Inv X pins σ H' { s' with heap := h2 } := inv_fly (t' := s'.toks) I' bd Ic c cH fl.1 hel.1 up2
  suffices hs : ∃ m, h2.Ns C m ∧ ∀ h', Heap.SameBut C h2 h' → ∀ cenv : Env, cenv.locals = C → wpAny (model X.prog X.w) X.A (PySem.passOn "comprehension.variables-let-go" (.ref x) cenv : Sem Value) (fun _ _ => False) X.xe { s' with heap := h' } by
    cases use <;> exact hs
  refine ⟨m7, up2.ns hm', fun h3 sb cenv _ => ?_⟩
  have I3 : Inv X pins σ H' { s' with heap := h3 } := Inv.turned (s := { s' with heap := h2 }) (h' := h3) (t' := s'.toks) (it := C) i2 (fun b o hb e => by rw [sb.2 b hb]; exact e) nC' hL (.inr h0) hce hpi
  obtain ⟨k2, en2, ff2, oe, vs, T, oT, ts, a1, a2, a3, a4, a5, a6, a7, a8, a9, a10⟩ := hel
  have xC : x ≠ C := fun z => by rw [z, qB] at en2; cases en2
  have TC : T ≠ C := fun z => by rw [z, qB] at a6; cases a6
  have kb : (PySem.W.hideAll B [C]).StaysIn B := fun b o q => PySem.W.of_hideAll _ q
  have k3 : (PySem.W.hideAll B [C]).StaysIn h3 := fun b o q => by
    have hb : b ≠ C := fun z => by rw [z, PySem.W.hideAll_none [C] (by simp)] at q; cases q
    rw [sb.2 b hb]
    exact k2 b o (PySem.W.of_hideAll _ q)
  have en3 := PySem.W.fresh_of_stays kb en2
  have t3 : Tr h3 (PySem.W.hideAll B [C]) x (.ref Ce) (cxV o) (rawInt X.env.locals) := ⟨oe, vs, T, oT, ts, by rw [sb.2 x xC]; exact a1, a2, a3, a4, a5, PySem.W.fresh_of_stays kb a6, a7, by rw [sb.2 T TC]; exact a8, a9, a10⟩
  refine pass_any (s := { s' with heap := h3 }) (l := X.env :: X.outer) k3 (ff_but sb ff2 hfs') t3 fun h4 fl4 y1 y2 y3 y4 => ?_
  rw [xe]
  show wpAny _ _ _ _ _ _
  refine leave_any (s := { s' with heap := h4 }) hfr bd.fr y1 en3 y2 y3 fun h5 fl5 up5 => ?_
  have c0 := cov_out bd Ic c
  refine cx_end (s := { s' with heap := h3 }) I3 bd (fun b o q hb => ?_) (fun b u q => ?_) k3 hx fl5 (y4.trans up5) (fun a ea => ?_) he
  · obtain ⟨o', q'⟩ := c0 b o q hb
    have := Heap.lt_size q
    exact ⟨o', PySem.W.hideAll_get _ q' (by simp; intro z; subst z; exact absurd (Nat.lt_of_lt_of_le this h0) (Nat.lt_irrefl _))⟩
  · obtain ⟨o', q'⟩ := cH b u q
    exact ⟨o', PySem.W.hideAll_get _ q' (by simp; intro z; subst z; rw [nC'] at q; cases q)⟩
  · obtain ⟨x1, oa, ws, x2, x3, x4⟩ := ck a ea
    have aC : a ≠ C := fun z => by
      obtain ⟨od, es, ep, q1, q2, _⟩ := hm'
      rw [z] at x2
      rw [fl.1 _ _ x2] at q1
      cases q1
      rw [x3] at q2
      cases q2
    exact ⟨x1, oa, ws, PySem.W.hideAll_get _ x2 (by simpa using aC), x3, x4⟩
/-- a comprehension whose block may raise -/
theorem pe_lcX {E : XK} (bd : Body X) (xe : XE X X.prog X.w E) {wi : TI} {ps : List Str} (_S : FnScope N ps osc) (js : List Nat) (hi : PI X (.Name x px) iter wi)
    (hin : ∀ cl C s H fp Ev, Passes (CX1 X.prog X.w) (cxC X scope cl C (x :: capN N js) s H fp Ev) E → PIf (cxC X scope cl C (x :: capN N js) s H fp Ev) ifs tt ∧ PE (cxC X scope cl C (x :: capN N js) s H fp Ev) elt te)
    (hN : X.N = N := by rfl) (hsc : X.env.scope = osc := by rfl) (hcap : capOk N osc scope js = true := by decide +kernel) (hs1 : scOk osc scope x = true := by decide +kernel) (hnd : (x :: capN N js).Nodup := by decide +kernel) (hc : X.calm = true := by rfl)
    (hs : ∀ v, foldedSetIterable iter X.env v = pure v := by intro _; rfl) :
    PE X (.ListComp elt [⟨.Name x px, iter, ifs, 0⟩] scope pos) (tLC wi js tt te) := by
  intro pins s σ H Q I h
  obtain ⟨cl, hcl, cl1, cl2⟩ := closure_of (frees_of hs1 hsc I)
  rw [eval_ListComp]
  refine wpAny_comprehension_free (use := none) rfl hs hcl (scOk.kind hs1) (scOk.names hs1) (thn (hi pins s σ H _ I h) fun v s1 h1 => thn h1 fun itv s2 h2 => ?_)
  obtain ⟨it, fp, tn, J, H2, e, I2, T, st2, f2, lp⟩ := h2
  subst e
  refine comp_coreX (RR := fun acc C => compPost (model X.prog X.w) X.A X.xe none (EP X pins σ Q) acc C) hN hsc hcap hs1 hnd hc (fun D C b1 b2 b3 b4 b5 => hin cl C _ _ _ _ (passC bd xe I2 f2 b1 b2 b3 b4 b5)) I2 T st2 f2 cl1 cl2 lp ?_
  intro D C ys H' s' q nD I' hm hL h0 hce hpi hfree
  refine ⟨hm.choose, hm.choose_spec, fun h' hs' => ⟨.ref D, _, I'.turned (t' := s'.toks) (fun b o hb e => hs'.extBut b o hb e) hfree hL (.inr h0) hce hpi, rfl, q D nD⟩⟩
theorem ps_lcX {E : XK} (bd : Body X) (xe : XE X X.prog X.w E) {wi : TI} {y : Str} {py spos : Pos} {i : Nat} {ps : List Str} (_S : FnScope N ps osc) (js : List Nat) (hn : X.N.Nodup) (hi' : X.N[i]? = some y) (hy : X.env.scope.names.lookup y = some .local) (hi : PI X (.Name x px) iter wi)
    (hin : ∀ cl C s H fp Ev, Passes (CX1 X.prog X.w) (cxC X scope cl C (x :: capN N js) s H fp Ev) E → PIf (cxC X scope cl C (x :: capN N js) s H fp Ev) ifs tt ∧ PE (cxC X scope cl C (x :: capN N js) s H fp Ev) elt te)
    (hN : X.N = N := by rfl) (hsc : X.env.scope = osc := by rfl) (hcap : capOk N osc scope js = true := by decide +kernel) (hs1 : scOk osc scope x = true := by decide +kernel) (hnd : (x :: capN N js).Nodup := by decide +kernel) (hc : X.calm = true := by rfl)
    (hs : ∀ v, foldedSetIterable iter X.env v = pure v := by intro _; rfl)
    (hsw : swapsWith (.ListComp elt [⟨.Name x px, iter, ifs, 0⟩] scope pos) (some (.Name y py)) spos.line X.env = pure true := by rfl) :
    PS X (.Assign [.Name y py] (.ListComp elt [⟨.Name x px, iter, ifs, 0⟩] scope pos) spos) (tAsg (tLC wi js tt te) (gName i)) := by
  intro pins s σ H Dn I h
  obtain ⟨cl, hcl, cl1, cl2⟩ := closure_of (frees_of hs1 hsc I)
  rw [exec_Assign_Name_used _ _ _ _ hsw]
  refine wpAny_bind (wpAny_standAt (wpAny_bind ?_))
  show wpAny _ X.A (do let _ ← comprehension (.ListComp elt [⟨.Name x px, iter, ifs, 0⟩] scope pos) scope X.env _ (newList []) false (eval iter X.env) (some (assign (.Name y py) X.env))) _ _ s
  refine wpAny_bind (wpAny_mono (wpAny_comprehension_free (use := some (assign (.Name y py) X.env)) (Q := fun _ s' => SP X pins Dn .next s') rfl hs hcl (scOk.kind hs1) (scOk.names hs1)
    (thn (hi pins s σ H _ I h) fun v s1 h1 => thn h1 fun itv s2 h2 => ?_)) (fun _ s' hq => wpAny_pure (wpAny_pure hq)) fun _ _ e => e)
  obtain ⟨it, fp, tn, J, H2, e, I2, T, st2, f2, lp⟩ := h2
  subst e
  refine comp_coreX (RR := fun acc C => compPost (model X.prog X.w) X.A X.xe (some (assign (.Name y py) X.env)) (fun _ s' => SP X pins Dn .next s') acc C) hN hsc hcap hs1 hnd hc (fun D C b1 b2 b3 b4 b5 => hin cl C _ _ _ _ (passC bd xe I2 f2 b1 b2 b3 b4 b5)) I2 T st2 f2 cl1 cl2 lp ?_
  intro D C ys H' s' q nD I' hm hL h0 hce hpi hfree
  show wpAny _ X.A (assign (.Name y py) X.env (.ref D)) _ _ _
  refine wpAny_assign_Name (store_ok2 (v := .ref D) I' hn hi' (.inl hy) rfl (fun s'' I'' hch => ?_) (.inr hy))
  obtain ⟨m, hm⟩ := hm
  obtain ⟨a, sb, ha⟩ := hch
  have hCa : C ≠ a := by
    rcases ha with z | z
    · rw [z]; exact hL
    · exact fun e => hce _ _ z e.symm
  exact ⟨m, hm.sameBut sb hCa, fun h' hs' => ⟨_, _, I''.turned (t' := s''.toks) (fun b o hb e => hs'.extBut b o hb e) hfree hL (.inr h0) hce hpi, q D nD⟩⟩
/-- a call within the block -/
theorem pe_fnC {E : XK} {k : Nat} {f : Str} {ps : List Str} {sp : Sp} {p pos : Pos} {e : Expr} {es : List Expr} {t : TA} (hp : Passes (CX1 X.prog X.w) X E) (F : FnX X.prog X.w X.K X.mg X.base k f ps sp) (hr : Room k X.A) (ha : PA X (e :: es) t) (hg : Gl X f := by rfl) (hdb : (f == ("__debug__" : Str)) = false := by decide) (he : starEach (e :: es) X.env = (false, eval e X.env) :: starEach es X.env := by rfl) (hpl : (backTo pos (starEach es X.env)).any (·.1) = false := by rfl) :
    PE X (.Call (.Name f p) (e :: es) [] pos) (tCall sp [] E t) := by
  obtain ⟨g, fd, F, hm, hk, hb⟩ := F
  exact pe_call F hr hg hm hk hb .nil hp ha hdb he hpl
end
end L2

namespace L2
open PySem PySem.Spec PyProof.Rows
/-- the body of an except, its exception's context pinned -/
def Cx.suiteP (X : Cx) (x : Addr) (pn : List (Addr × Obj)) : Cx := { X with A := X.A.mark (some (.ref x)), calm := false, pn := pn ++ X.pn }
def CtxP (x : Addr) (o : Option Addr) (pn : List (Addr × Obj)) : Prop := ∀ a, o = some a → ∃ oa ws, (a, oa) ∈ pn ∧ oa.data = .fields ws ∧ ws[2]? = some Value.none ∧ a ≠ x
def xP (C x : Addr) (o : Option Addr) : HO := .ext fun h => ∃ ob vs, h.get? x = some ob ∧ ob.cls = .ref C ∧ ob.data = .fields vs ∧ vs[2]? = some (cxV o)
section
variable {X : Cx} {pins : List (Addr × Obj)} {σ : St} {H : Hp} {s : Shared}
theorem Inv.suiteP (x : Addr) (pn : List (Addr × Obj)) (hp : ∀ p ∈ pn, s.heap.get? p.1 = some p.2 ∧ H p.1 = none ∧ p.1 ≠ X.env.locals ∧ p.1 ∉ X.fs ∧ ∀ v, p.2.data ≠ .cell v) (I : Inv X pins σ H s) : Inv (X.suiteP x pn) pins σ H s :=
  ⟨⟨I.ok.mod, I.ok.kind, I.ok.glob, I.ok.blt, I.ok.above, I.ok.inj, I.ok.has, I.ok.cab, fun z => absurd (show false = true from z) (by decide), I.ok.frames, I.ok.stk, I.ok.exf, I.ok.bs, I.ok.bsz, I.ok.noex, I.ok.exfs, I.ok.funs, I.ok.frf⟩, I.os, I.bare, I.base, I.loc, I.cell, I.free, I.freeC, fun p q => by
    rcases List.mem_append.mp q with q | q
    · rcases List.mem_append.mp q with q | q
      · exact hp p q
      · exact I.pin p (List.mem_append_left _ q)
    · exact I.pin p (List.mem_append_right _ q), I.hok, I.len⟩
theorem Inv.unsuiteP {x : Addr} {pn : List (Addr × Obj)} (ok : X.Ok) (I : Inv (X.suiteP x pn) pins σ H s) : Inv X pins σ H s :=
  ⟨ok, I.os, I.bare, I.base, I.loc, I.cell, I.free, I.freeC, fun p q => by
    rcases List.mem_append.mp q with q | q
    · exact I.pin p (List.mem_append_left _ (List.mem_append_right _ q))
    · exact I.pin p (List.mem_append_right _ q), I.hok, I.len⟩
theorem trackedP {x C : Addr} {o : Option Addr} {B h' : Heap} {Hc : Hp} {sc : Shared} {t' : Nat} (I : Inv X pins σ H { s with heap := h', toks := t' }) (bd : Body X) (hx : H x = none) (fl : Fly B X.stack x (.ref C) (cxV o) h') (Ic : Inv X pins σ Hc sc) (c : Cov B sc.heap X.stack) : Inv X pins σ (upd H x (xP C x o)) { s with heap := h', toks := t' } := by
  obtain ⟨hk, hen, hl, oe, vs, T, oT, ts, he, hc, hd, h2, _⟩ := fl
  have nfr : x ∉ frs X.stack := fr_ne hl he hd
  have notB : ∀ b o, sc.heap.get? b = some o → b ∉ frs X.stack → b ≠ x := fun b o q n z => by
    obtain ⟨o', q'⟩ := c b o q n
    rw [z, hen] at q'; cases q'
  rw [frs_stack bd] at nfr
  refine I.trackO hx ?_ (fun z => nfr (by rw [z]; exact List.mem_cons_self)) (fun y cc e => ?_) (fun p hp => ?_) ⟨⟨oe, vs, he, hc, hd, h2⟩, ⟨oe, he⟩, fun h1 h2 ⟨o, ws, q1, q2⟩ st => ⟨o, ws, st _ q1, q2⟩⟩
  · cases q : X.s₀.heap.get? x with
    | none => rfl
    | some o3 =>
      obtain ⟨o', q'⟩ := cov_out bd Ic c x o3 q fun z => nfr (List.mem_cons_of_mem _ z)
      rw [hen] at q'; cases q'
  · obtain ⟨v, o, ho, _⟩ := Ic.cell y cc e
    refine notB cc o ho fun z => ?_
    rw [frs_stack bd] at z
    rcases List.mem_cons.mp z with z | z
    · exact I.cne y cc e z
    · obtain ⟨_, o2, h2, _⟩ := I.ok.funs.mem z
      exact absurd (Nat.lt_of_lt_of_le (Heap.lt_size h2) (I.ok.cab y cc (bd.fn y) e)) (Nat.lt_irrefl _)
  · obtain ⟨h1, _, h3, h4, _⟩ := Ic.pin p hp
    refine notB p.1 _ h1 fun z => ?_
    rw [frs_stack bd] at z
    rcases List.mem_cons.mp z with z | z
    · exact h3 z
    · exact h4 z
theorem ps_try_asP {st : Stmt} {tb : Ends → St → Hp → XK → Prop} {d n : Str} {i : Nat} {b₀ : Stmt} {suite : List Stmt} {np hpos pos : Pos} {D : Addr} {ts : Addr → List (Addr × Obj) → TS} (bd : Body X) (hb : PSX X st tb) (gd : XC X.K X.mg d D) (hN : X.N.Nodup) (hi : X.N[i]? = some n) (hlo : X.env.scope.names.lookup n = some .local)
    (hs : ∀ x pn E, PSs ((X.suiteP x pn).catch E) (b₀ :: suite) (ts x pn)) (hgl : Gl X d := by rfl) (hdd : (d == ("__debug__" : Str)) = false := by decide) :
    PS X (.Try [st] [.ExceptHandler (some (.Name d np)) (some n) (b₀ :: suite) hpos] [] [] pos) (fun D' σ H => tb D' σ H (fun cv o H' => ∃ C, cv = .ref C ∧ PySem.W.excIn X.K C bmV "ValueError.__new__" = true ∧ subIn X.K C D = true ∧
      ∀ x pn, CtxP x o pn → H' x = none → ts x pn { nx := fun _ _ => False, rt := D'.rt } (σ.set i (some (.ref x))) (upd H' x (xP C x o)))) := by
  intro pins s σ H D' I h
  refine wpAny_Try_except (wpAny_execs_cons (wpAny_mono (hb pins s σ H D' _ I h) (fun f s1 q => ?_) (fun ev s1 he => ?_)))
  · cases f with
    | next => exact wpAny_execs_nil (wpAny_execs_nil q)
    | brk => exact q
    | cont => exact q
    | ret u => exact q
  obtain ⟨x, C, H', B, o, Hc, sc, rfl, I', hx, fl, cH, Ic, c, ck, C', eC, qC, hsub, rd⟩ := he
  cases eC
  have fr1 : X.A.frames = some (X.env :: X.outer) := by rw [I.ok.frames, bd.stk]
  have fl' := fl
  rw [bd.stk] at fl'
  refine note_on fr1 bd.fr fl' fun h4 hel4 up4 => ?_
  refine lands hel4 fun h5 fl5 up5 => ?_
  have I5 := inv_fly (t' := s1.toks) I' bd Ic c cH fl.1 fl5.1 (up4.trans up5)
  obtain ⟨_, _, _, oe, vs, _, _, _, he5, hc5, _⟩ := id fl5
  refine wpAny_handleBy_cons (codeAny_handlers_test (ld_glob (X := X.suite x) (I5.suite x) hgl gd.g ?_ hdd)) (by intro z; cases z)
  refine matches_own I5.kIn qC gd.ex hsub he5 hc5 ?_
  refine codeAny_handlers_suite_as ?_
  refine lands2 fl5 fun h6 fl6 up6 => ?_
  have I6 := inv_fly (t' := s1.toks) I' bd Ic c cH fl.1 fl6.1 ((up4.trans up5).trans up6)
  have I6t := trackedP (o := o) I6 bd hx (by rw [bd.stk]; exact fl6) Ic c
  have ckp : ∃ pn, CtxP x o pn ∧ ∀ p ∈ pn, h6.get? p.1 = some p.2 ∧ (upd H' x (xP C x o)) p.1 = none ∧ p.1 ≠ X.env.locals ∧ p.1 ∉ X.fs ∧ ∀ v, p.2.data ≠ .cell v := by
    cases ho : o with
    | none => exact ⟨[], (fun a e => by cases e), (fun p hp => by cases hp)⟩
    | some a =>
      obtain ⟨x1, oa, ws, x2, x3, x4⟩ := ck a ho
      have ax : a ≠ x := fun z => by rw [z, fl.2.1] at x2; cases x2
      have nf := fr_ne fl6.2.2.1 (fl6.1 _ _ x2) x3
      rw [← bd.stk, frs_stack bd] at nf
      refine ⟨[(a, oa)], fun b e => by cases e; exact ⟨oa, ws, by simp, x3, x4, ax⟩, fun p hp => ?_⟩
      have e : p = (a, oa) := by simpa using hp
      subst e
      exact ⟨fl6.1 _ _ x2, by rw [upd_ne ax]; exact x1, fun z => nf (by rw [← z]; exact List.mem_cons_self), fun z => nf (List.mem_cons_of_mem _ z), fun v z => by rw [x3] at z; cases z⟩
  obtain ⟨pn, cp, hpn⟩ := ckp
  refine store_ok (X := X.suiteP x pn) (I6t.suiteP x pn hpn) hN hi (.inl hlo) (v := .ref x) rfl (fun s7 I7 => ?_) (.inr hlo)
  refine wpAny_mono (hs x pn _ pins s7 _ _ _ I7.catch (rd x pn cp hx)) (fun f s8 q => ?_) (fun _ _ z => z)
  have q' := SP.uncatch q
  cases f with
  | next => obtain ⟨_, _, _, z⟩ := q'; exact z.elim
  | brk => obtain ⟨_, _, _, z⟩ := q'; exact z.elim
  | cont => obtain ⟨_, _, _, z⟩ := q'; exact z.elim
  | ret u =>
    obtain ⟨v, σ', H'', I8, r, hq⟩ := q'
    have I8' := I8.unsuiteP I.ok
    refine wpAny_bind (wpAny_bindName (store_ok (X := X) I8' hN hi (.inl hlo) (v := .non) rfl (fun s9 I9 => ?_) (.inr hlo)))
    unfold unbindBehindTheSuite
    refine wpAny_onRaise (del_ok I9 hN hi hlo (v := .non) ?_ fun s10 I10 => ⟨v, _, H'', I10, r, hq⟩)
    rw [List.getElem?_set_self (by rw [I8'.len]; exact (List.getElem?_eq_some_iff.mp hi).1)]
end
section
variable {X : Cx} {E : XK}
theorem ps_try_raise2 {st : Stmt} {tb : Ends → St → Hp → XK → Prop} {d y msg : Str} {np hpos pos cpos rpos np2 p p2 : Pos} {j j2 : Nat} {D C2 : Addr} (bd : Body X) (xe : XE X X.prog X.w E) (hb : PSX X st tb) (gd : XC X.K X.mg d D) (gy : XC X.K X.mg y C2)
    (hgl : Gl X d := by rfl) (hgy : Gl X y := by rfl) (hdd : (d == ("__debug__" : Str)) = false := by decide) (hdy : (y == ("__debug__" : Str)) = false := by decide) :
    PS X (.Try [st] [.ExceptHandler (some (.Name d np)) none [.Raise (some (.Call (.Name y np2) [.Constant (.str msg) j p] [] cpos)) (some (.Constant .none j2 p2)) rpos] hpos] [] [] pos)
      (fun D' σ H => tb D' σ H (fun cv o H' => ∃ C, cv = .ref C ∧ PySem.W.excIn X.K C bmV "ValueError.__new__" = true ∧ ((o = none ∧ subIn X.K C D = true ∧ ∀ x, E (.ref C2) (some x) H') ∨ (subIn X.K C D = false ∧ E (.ref C) o H')))) := by
  intro pins s σ H D' I h
  refine wpAny_Try_except (wpAny_execs_cons (wpAny_mono (hb pins s σ H D' _ I h) (fun f s1 q => ?_) (fun ev s1 he => ?_)))
  · cases f with
    | next => exact wpAny_execs_nil (wpAny_execs_nil q)
    | brk => exact q
    | cont => exact q
    | ret u => exact q
  obtain ⟨x, C, H', B, o, Hc, sc, rfl, I', hx, fl, cH, Ic, c, ck, C', eC, qC, alt⟩ := he
  cases eC
  have fr1 : X.A.frames = some (X.env :: X.outer) := by rw [I.ok.frames, bd.stk]
  have fl' := fl
  rw [bd.stk] at fl'
  refine note_on fr1 bd.fr fl' fun h4 hel4 up4 => ?_
  refine lands hel4 fun h5 fl5 up5 => ?_
  have I5 := inv_fly (t' := s1.toks) I' bd Ic c cH fl.1 fl5.1 (up4.trans up5)
  obtain ⟨_, _, _, oe, vs, _, _, _, he5, hc5, _⟩ := id fl5
  refine wpAny_handleBy_cons (codeAny_handlers_test (ld_glob (X := X.suite x) (I5.suite x) hgl gd.g ?_ hdd)) (by intro z; cases z)
  rcases alt with ⟨rfl, hsub, rd⟩ | ⟨hsub, rd⟩
  rotate_left
  · refine matches_own I5.kIn qC gd.ex hsub he5 hc5 ?_
    refine wpAny_handleBy_nil ?_
    refine pass_any (l := X.env :: X.outer) fl5.1 fl5.2.2.1 fl5.2.2.2 fun h6 fl6 y1 y2 y3 y4 => ?_
    rw [xe]
    show wpAny _ _ _ _ _ _
    refine leave_any (s := { s1 with heap := h6 }) fr1 bd.fr y1 fl5.2.1 y2 y3 fun h7 fl7 up7 => ?_
    exact cx_end (s := { heap := h5, gens := s1.gens, drawn := s1.drawn, toks := s1.toks, os := s1.os }) I5 bd (cov_out bd Ic c) cH fl5.1 hx fl7 (y4.trans up7) ck rd
  refine matches_own I5.kIn qC gd.ex hsub he5 hc5 ?_
  refine codeAny_handlers_suite ?_
  refine lands2 fl5 fun h6 fl6 up6 => ?_
  have I6 := inv_fly (t' := s1.toks) I' bd Ic c cH fl.1 fl6.1 ((up4.trans up5).trans up6)
  have hE : PassesOwnAt (model X.prog X.w) (X.A.mark (some (.ref x))) X.A X.env X.xe := by rw [xe]; exact PassesOwnAt.leaving
  refine wpAny_passesOwnAt hE (wpAny_execs_cons ?_)
  rw [arm_exec_Raise]
  refine wpAny_bind (wpAny_standAt ?_)
  obtain ⟨bm, N, nm, q, bs, hdct, sn, sub, ab, col, dd, k0, k1, k2, k3, k5, mN, hC, hN, hni, T, _⟩ := exc_obj I6.kIn gy.ex
  obtain ⟨_, _, _, ox, ws, _, _, _, hx6, _, hd6, hx2, _⟩ := id fl6
  simp only [evalOpt, Option.map]
  refine raise_from (C := C2) (nm := nm) (q := q) (N := N) (bs := bs) (bm := bm) (hdct := hdct) (sn := sn) (sub := sub) (ab := ab) (col := col) (dd := dd) (k0 := k0) (k1 := k1) (k2 := k2) (k3 := k3) (k5 := k5) (newId := "ValueError.__new__") (y := x) (T.hasType PySem.F.excBase_ValueError.hasBase) rfl ?_
  refine wpAny_bind (wpAny_mono (Q := fun v s₃ => ∃ e t, v = .ref e ∧ (∀ b o, h6.get? b = some o → s₃.heap.get? b = some o) ∧ h6.get? e = none ∧ s₃.heap.get? e = some { cls := .ref C2, data := .fields #[.ref t, .none, .none, .none, .bool false, .none] } ∧ s₃.gens = s1.gens ∧ s₃.drawn = s1.drawn ∧ s₃.os = s1.os) (wpAny_Call_ofName ?_) (fun v s₃ q3 => wpAny_bind (wpAny_standAt (wpAny_pure ?_))) fun _ _ z => z)
  · refine ld_glob (X := X.suite x) (I6.suite x) hgy gy.g ?_ hdy
    unfold callWith
    refine wpAny_bind (wpAny_holding (Calls.evalArgs_plain (Calls.spliced_cons (Calls.Constant_str (k := j) (pos := p) (Calls.spliced_nil ?_)))))
    refine wpAny_bind (wpAny_standAt ?_)
    refine wpAny_bind (wpAny_keeperOf_exc hC ?_)
    refine wpAny_bind (wpAny_call_exc_subT PySem.F.excBase_ValueError T hC hN hni fun h' e hm => wpAny_bind (wpAny_holding (wpAny_point (wpAny_pure ?_))))
    obtain ⟨t, ht, _, _⟩ := hm.there
    exact ⟨e, t, rfl, hm.keeps, hm.new, ht, rfl, rfl, rfl⟩
  · obtain ⟨e, t, rfl, kp, nw, he, g3, d3, o3⟩ := q3
    refine ⟨e, t, rfl, (fun z => by rw [z, hx6] at nw; cases nw), kp _ _ hC, he, ⟨ox, ws, kp _ _ hx6, hd6, hx2⟩, ?_, fun h' oth he' => ?_⟩
    · exact wpAny_bind (wpAny_Constant_none (wpAny_bind (wpAny_standAt (wpAny_pure ⟨rfl, rfl⟩))))
    · obtain ⟨h3, g3', d3', t3, o3'⟩ := s₃
      subst g3 d3 o3
      exact newX (s := { heap := h6, gens := s1.gens, drawn := s1.drawn, toks := s1.toks, os := s1.os }) (tk := t3) (o := some x) bd xe I6 (fun b o q => (oth b (fun z => by rw [z, nw] at q; cases q)).trans (kp b o q)) nw he' rfl rfl rfl rfl (fun a ea => by cases ea; exact ⟨hx, ox, ws, hx6, hd6, hx2⟩) (rd x)
end
section
variable {X : Cx}
theorem call_isinstP : CallR X (.builtin "isinstance") (fun xs H Q => ∃ x C o c cv b, xs = [.ref x, c] ∧ ClV c cv ∧ H x = some (xP C x o) ∧ ExcCls X.K C ∧ PySem.W.kitOne X.K (.ref C) cv = some b ∧ Q (.bl b) H) := by
  intro pins s σ H xs us Q I r h
  obtain ⟨x, C, o, c, cv, b, rfl, hc, hx, hC, he, q⟩ := h
  cases r with
  | cons r1 r' =>
    cases r' with
    | cons r2 r'' =>
      cases r''
      obtain rfl := hc.rel r2
      cases (show _ = Value.ref x from r1)
      obtain ⟨⟨o', vs, z1, z2, z3, _⟩, _⟩ := (show ObjOk X.prog X.w H s.heap x (xP C x o) from I.hok x _ hx)
      have hX : XAt x C s.heap := ⟨o', vs, z1, z2, z3⟩
      exact PySem.W.kia_one (kitx_exc hC) I.kIn hX he (fun z => nomatch z) fun tk => ⟨.bl b, H, I.tok tk, rfl, q⟩
end
/-! ### any(..) within an except suite -/
section
variable {prog : Program} {w : World} {A : Around} {E : Value → Shared → Prop} {s : Shared}
def CtxH (h : Heap) (y : Addr) (o : Option Addr) : Prop := (∃ oy vs, h.get? y = some oy ∧ oy.data = .fields vs ∧ vs[2]? = some (cxV o)) ∧ ∀ a, o = some a → a ≠ y ∧ ∃ oa ws, h.get? a = some oa ∧ oa.data = .fields ws ∧ ws[2]? = some Value.none
theorem unchain_ok {e y : Addr} {o : Option Addr} {Q : Value → Shared → Prop} (hc : CtxH s.heap y o) (hen : ∀ a, o = some a → a ≠ e) (hQ : Q .none s) :
    wpAny (model prog w) A (runValue (.builtin "proto.unchain" ⟨[.ref e, .ref y, .ref y, .bool false], []⟩)) Q E s := by
  obtain ⟨⟨oy, vs, hy, hdy, h2⟩, hca⟩ := hc
  refine wpAny_runValue (codeAny_builtin entry_unchain ?_)
  rw [Around.under_plainId plain_unchain _]
  unfold Builtin.«proto.unchain»
  refine wpAny_bind (wpAny_field hy hdy h2 ?_)
  cases o with
  | none =>
    rw [if_pos (by rfl)]
    exact wpAny_pure hQ
  | some a =>
    obtain ⟨ay, oa, ws, ha, hda, ha2⟩ := hca a rfl
    have ae := hen a rfl
    rw [if_neg (by simp [cxV]), if_neg (by simpa [cxV] using ae), if_neg (by simpa [cxV] using ay)]
    refine wpAny_bind (wpAny_pure ?_)
    refine wpAny_pure ?_
    refine ⟨plainId_quiet plain_unchain _, codeAny_builtin entry_unchain ?_⟩
    rw [Around.under_plainId plain_unchain _]
    unfold Builtin.«proto.unchain»
    refine wpAny_bind (wpAny_field ha hda ha2 ?_)
    rw [if_pos (by rfl)]
    exact wpAny_pure hQ
theorem next_endP {it l y : Addr} {o : Option Addr} {i : Nat} {items} {Q : Option Value → Shared → Prop} (hh : A.handled = some (.ref y)) (hc : CtxH s.heap y o) (hyi : y ≠ it) (hai : ∀ a, o = some a → a ≠ it)
    (hit : s.heap.IsListIter it l i) (hl : s.heap.IsList l items) (hx : items[i]? = none)
    (hQ : ∀ h', Heap.ExtBut it s.heap h' → Q none { s with heap := h' }) : wpAny (model prog w) A (pyNext (.ref it)) Q E s := by
  obtain ⟨ob, ho, hcl, hd⟩ := id hit
  obtain ⟨ol, hol, _, nl, hdl⟩ := hl
  obtain ⟨⟨oy, vs, hy, hdy, h2⟩, hca⟩ := hc
  unfold pyNext
  refine wpAny_bind (wpAny_attempt (wpAny_callSpecial?_slot (name := Str.ofString "__next__") hit.typeIs slot_listiter_next
    (wpAny_call_entry slot_listiter_next hit.typeIs entry_listiter_next ?_ (args_listiter_next _))))
  show wpAny _ _ (field (.ref it) 0 >>= _) _ _ s
  refine wpAny_bind (wpAny_field ho hd (x := .ref l) rfl ?_)
  show wpAny _ _ (if (Value.ref l == Value.none) = true then _ else _) _ _ s
  rw [if_neg (show ¬ ((Value.ref l == Value.none) = true) from Bool.false_ne_true)]
  show wpAny _ _ (field (.ref it) 1 >>= _) _ _ s
  refine wpAny_bind (wpAny_field ho hd (x := .int i 0) rfl ?_)
  show wpAny _ _ (seqItems? (.ref l) >>= _) _ _ s
  refine wpAny_bind (wpAny_seqItems hol hdl ?_)
  simp only [Int.toNat_natCast, hx]
  refine wpAny_bind (wpAny_rule (wpAny_bind (wpAny_setField ho hd (by simp) ?_)))
  show wpAny _ _ (newExc (.type "StopIteration") [] >>= _) _ _ _
  refine wpAny_bind ?_
  simp only [newExc, newTuple]
  refine wpAny_bind (wpAny_newObj_type ?_ (by size_fits))
  refine wpAny_bind (m := firstArgMember _ _) (wpAny_of_eq (a := Value.none) (by first | rfl | (simp only [firstArgMember]; rfl)) ?_)
  refine wpAny_newObj_type ?_ (by size_fits)
  simp only [raiseNew]
  refine wpAny_bind (wpAny_handled ?_)
  rw [show A.in1.handled = some (.ref y) from hh]
  dsimp only
  have old : ∀ b o, b ≠ it → s.heap.get? b = some o → (((s.heap.update it (Obj.mapFields fun x => x.setIfInBounds 0 Value.none)).push { cls := Value.type "tuple", data := Data.seq #[] })).get? b = some o := fun b o n q => Heap.get?_push_of_some _ ((Heap.get?_update_other _ _ (Ne.symm n)).trans q)
  generalize hg : (s.heap.update it (Obj.mapFields fun x => x.setIfInBounds 0 Value.none)).push { cls := Value.type "tuple", data := Data.seq #[] } = g at old ⊢
  have eb : Heap.ExtBut it s.heap g := by rw [← hg]; exact (Heap.SameBut.update ..).extBut.push _
  generalize hoe : (#[Value.ref (s.heap.update it (Obj.mapFields fun x => x.setIfInBounds 0 Value.none)).objs.size, Value.none, Value.none, Value.none, Value.bool false, Value.none] ++ ownMembersOf (Value.type "StopIteration") [] : Array Value) = es
  have hz : 2 < es.size := by rw [← hoe]; simp; omega
  have ye : y ≠ g.objs.size := Nat.ne_of_lt (Heap.lt_size (old y oy hyi hy))
  rw [if_pos (by simpa using ye)]
  have oldN : ∀ b o, b ≠ it → s.heap.get? b = some o → (g.push { cls := Value.type "StopIteration", data := Data.fields es }).get? b = some o := fun b o n q => Heap.get?_push_of_some _ (old b o n q)
  refine wpAny_bind (wpAny_holding (unchain_ok (o := o) ⟨⟨oy, vs, oldN y oy hyi hy, hdy, h2⟩, fun a ea => ?_⟩ (fun a ea => ?_) ?_))
  · obtain ⟨z1, oa, ws, z2, z3, z4⟩ := hca a ea
    exact ⟨z1, oa, ws, oldN a oa (hai a ea) z2, z3, z4⟩
  · obtain ⟨z1, oa, ws, z2, z3, z4⟩ := hca a ea
    exact Nat.ne_of_lt (Heap.lt_size (old a oa (hai a ea) z2))
  have hN := Heap.get?_push_size (h := g) (o := { cls := Value.type "StopIteration", data := Data.fields es }) rfl
  refine wpAny_bind (m := updateField _ _ _) ?_
  show wpAny _ _ (setField (.ref g.objs.size) 2 (.ref y)) _ _ _
  refine wpAny_setField hN rfl hz (wpAny_throw ?_)
  have hN2 := Heap.get?_update_self (Obj.mapFields fun x => x.setIfInBounds 2 (Value.ref y)) hN (by rfl)
  refine wpAny_bind (wpAny_isInstance (T := "StopIteration") (b := true) ⟨_, hN2, rfl⟩ isSubtype_stop ?_)
  exact wpAny_pure (hQ _ fun b o n q => by rw [Heap.get?_update_other _ _ (Nat.ne_of_gt (Heap.lt_size (old b o n q)))]; exact oldN b o n q)
theorem walks_listP {y : Addr} {o : Option Addr} (hh : A.handled = some (.ref y)) (I ax : Addr) (hne : ax ≠ I) (hyi : y ≠ I) (hai : ∀ a, o = some a → a ≠ I) (items : Array Value) :
    Walks prog w A I (I :: ax :: y :: o.toList) [I] items.size (fun i v => items[i]? = some v) (fun i h => (h.IsListIter I ax i ∧ h.IsList ax items) ∧ CtxH h y o) where
  sub := fun b hb => by simp at hb; simp [hb]
  frame := fun _ _ _ st hk => by
    obtain ⟨st, ⟨oy, vs, h1, h2⟩, h3⟩ := st
    refine ⟨⟨st.1.at fun o e => hk I (by simp) o e, st.2.at fun o e => hk ax (by simp) o e⟩, ⟨oy, vs, hk y (by simp) _ h1, h2⟩, fun a ea => ?_⟩
    obtain ⟨z1, oa, ws, z2, z3⟩ := h3 a ea
    exact ⟨z1, oa, ws, hk a (by simp [ea]) _ z2, z3⟩
  item := fun i s Q E hi st hQ => by
    obtain ⟨st, ⟨oy, vs, h1, h2⟩, h3⟩ := st
    refine wpAny_pyNext_list_item st.1 st.2 (x := items[i]) (by simp [hi]) fun h' hit' hs' => ?_
    refine hQ _ h' s.toks (by simp [hi]) ⟨⟨hit', st.2.extBut hs'.extBut hne⟩, ⟨oy, vs, hs'.extBut y _ hyi h1, h2⟩, fun a ea => ?_⟩ fun b o hb e => hs'.extBut b o (fun h => hb (by simp [h])) e
    obtain ⟨z1, oa, ws, z2, z3⟩ := h3 a ea
    exact ⟨z1, oa, ws, hs'.extBut a _ (hai a ea) z2, z3⟩
  done := fun s Q E st hQ => next_endP hh st.2 hyi hai st.1.1 st.1.2 (by simp) fun h' he' => hQ h' s.toks fun b o hb e => he' b o (fun h => hb (by simp [h])) e
  self := fun _ _ _ _ st hQ => wpAny_pyIter_listiter st.1.1 hQ
end
section
variable {X : Cx}
theorem call_anyP {x : Addr} (hA : X.A.handled = some (.ref x)) : CallR X (.builtin "any") (fun xs H Q => ∃ (l : Addr) (bs : List Bool) (C : Addr) (o : Option Addr), xs = [.ref l] ∧ SqL X.K H l (bs.map V.bl) ∧ H x = some (xP C x o) ∧ (∀ a, o = some a → ∃ oa ws, (a, oa) ∈ X.pn ∧ oa.data = .fields ws ∧ ws[2]? = some Value.none ∧ a ≠ x) ∧ Q (.bl (bs.any id)) H) := by
  intro pins s σ H xs us Q I r h
  obtain ⟨l, bs, C, o, rfl, hl, hx, hp, q⟩ := h
  obtain ⟨u, rfl, ru⟩ := vals1 r
  cases ru
  obtain ⟨its, rv, pl, _⟩ := I.list hl
  have hli := pl.isList
  have hlt : l < s.heap.objs.size := by obtain ⟨_, e, _⟩ := hli; exact Heap.lt_size e
  have hlen := rv.length
  rw [List.length_map] at hlen
  obtain ⟨⟨oy, vs, z1, z2, z3, z4⟩, _⟩ := (show ObjOk X.prog X.w H s.heap x (xP C x o) from I.hok x _ hx)
  have hca : ∀ a, o = some a → a ≠ x ∧ ∃ oa ws, s.heap.get? a = some oa ∧ oa.data = .fields ws ∧ ws[2]? = some Value.none := fun a ea => by
    obtain ⟨oa, ws, y1, y2, y3, y4⟩ := hp a ea
    exact ⟨y4, oa, ws, (I.pin (a, oa) (List.mem_append_left _ y1)).1, y2, y3⟩
  refine call_any_walk (wpAny_pyIter_list hli ?_)
  refine ⟨s.heap.objs.size, _, [s.heap.objs.size], its.toArray.size, _, _, fun i => (bs[i]?).getD false, rfl, walks_listP (A := X.A.in1) (y := x) (o := o) hA _ l (Nat.ne_of_lt hlt) (Nat.ne_of_lt (Heap.lt_size z1)) (fun a ea => by obtain ⟨_, oa, ws, y1, _⟩ := hca a ea; exact Nat.ne_of_lt (Heap.lt_size y1)) its.toArray,
    ⟨⟨⟨_, Heap.get?_push_size _ rfl, rfl, rfl⟩, hli.push _⟩, ⟨oy, vs, Heap.get?_push_of_some _ z1, z3, z4⟩, fun a ea => by obtain ⟨y0, oa, ws, y1, y2⟩ := hca a ea; exact ⟨y0, oa, ws, Heap.get?_push_of_some _ y1, y2⟩⟩, fun i v s' Q' E' hP hQ => ?_, fun h' tk hk => ?_⟩
  · obtain ⟨b, e, rfl⟩ := vals_bl rv (i := i) (v := v) (by simpa using hP)
    simp only [e, Option.getD_some] at hQ
    exact wpAny_truthy_bool hQ
  · rw [List.size_toArray, ← hlen, any_range]
    exact ⟨.bl _, H, I.kept (t' := tk) fun b o e => hk b o (fun hm => by rw [List.mem_singleton.mp hm] at e; exact Nat.lt_irrefl _ (Heap.lt_size e)) (Heap.get?_push_of_some _ e), rfl, q⟩
end
end L2

namespace L2
open PySem PySem.Spec PyProof.Rows
/-! ### for .. in a text -/
def Its (x : Str) : It := ⟨fun i _ => i < x.cps.size, fun i H v H' => H' = H ∧ ∃ c, x.cps[i]? = some c ∧ v = .str ⟨#[c]⟩, fun i _ => i = x.cps.size⟩
theorem turn_str {P : Program} {w : World} {K : PySem.W.Frag} {tg : Expr} {n : String} {x : Str} {t : Tok} (it : Addr) (hn : ["enumerate", "zip", "dict_itemiterator", "dict_reverseitemiterator", "odict_iterator", "itertools.zip_longest", "itertools.pairwise"].contains n = false)
    (W : ∀ A : Around, A.handled = none → Walks P w A it [it] [it] x.cps.size (SignAt x) (fun i h => h.IsStrIter it n x t i)) (hs : ∀ (A : Around) (i : Nat) (s : Shared) (Q : Value → Shared → Prop) (E : Value → Shared → Prop), s.heap.IsStrIter it n x t i → Q (.ref it) s → wpAny (model P w) A (pyIter (.ref it)) Q E s) :
    Turn P w K tg (Its x) [it] it (fun i h => h.IsStrIter it n x t i) where
  mem := by simp
  obj := fun i h st b hb => by
    have e : b = it := by simpa using hb
    subst e
    obtain ⟨o, ho, hc, hd⟩ := st
    exact ⟨o, ho, fun v z => by rw [hd] at z; cases z⟩
  keep := fun i h h' st k => by
    obtain ⟨o, ho, r⟩ := st
    exact ⟨o, k it (by simp) _ ho, r⟩
  item := by
    intro X hP hw hK hc i pins s σ H E I hf st hg
    subst hP hw hK
    obtain ⟨f0, f1, f2, f3, f4, f5⟩ := hf it (by simp)
    refine (W X.A (I.ok.hd hc)).item i s _ _ hg st fun v h' tk hv st' kk => ?_
    obtain ⟨c, u, hx, rfl⟩ := hv
    have I1 : Inv X pins σ H { s with heap := h', toks := tk } := I.turned (fun b o hb e => kk b o (by simpa using hb) e) f0 f1 f3 f4 f5
    obtain ⟨o, ho, hcl, hd⟩ := id st'
    exact ⟨_, rfl, go_of (s := { s with heap := h', toks := tk }) (n := n) ho hcl hd hn ⟨.str ⟨#[c]⟩, H, I1, ⟨u, rfl⟩, ⟨rfl, c, hx, rfl⟩, st', fun b hb => (hf b hb).1⟩⟩
  done := by
    intro X hP hw hK hc i pins s σ H E I hf st hg
    subst hP hw hK
    obtain ⟨f0, f1, f2, f3, f4, f5⟩ := hf it (by simp)
    cases (show i = x.cps.size from hg)
    exact (W X.A (I.ok.hd hc)).done s _ _ st fun h' tk kk => ⟨rfl, I.turned (t' := tk) (fun b o hb e => kk b o (by simpa using hb) e) f0 f1 f3 f4 f5⟩
  self := fun A i s Q E st h => hs A i s Q E st h
theorem for_str {x : Str} {g : TG} {tb : TS} {D : Ends} {σ : St} {H : Hp} (Pv : Nat → St → Hp → Prop) (h0 : Pv 0 σ H)
    (hs : ∀ i c σ H, x.cps[i]? = some c → Pv i σ H → g (.str ⟨#[c]⟩) σ H fun σ2 H2 => tb { D with nx := Pv (i + 1), ct := Pv (i + 1), bk := D.nx } σ2 H2) (hd : ∀ σ H, Pv x.cps.size σ H → D.nx σ H) :
    ∃ W : Nat → Nat → St → Hp → Prop, (∃ m, W 0 m σ H) ∧ ∀ i m σ H, W i m σ H →
      ((Its x).stop i H ∧ D.nx σ H) ∨ ((Its x).go i H ∧ ∃ N : St → Hp → Prop, (∀ σ' H', N σ' H' → ∃ m', m' < m ∧ W (i + 1) m' σ' H') ∧ ∀ v H', (Its x).yld i H v H' → g v σ H' fun σ2 H2 => tb { D with nx := N, ct := N, bk := D.nx } σ2 H2) := by
  refine ⟨fun i m σ H => m = x.cps.size - i ∧ i ≤ x.cps.size ∧ Pv i σ H, ⟨x.cps.size, by simp, Nat.zero_le _, h0⟩, ?_⟩
  rintro i m σ H ⟨rfl, hi, p⟩
  by_cases hlt : i < x.cps.size
  · refine .inr ⟨hlt, Pv (i + 1), fun σ' H' p' => ⟨x.cps.size - (i + 1), by omega, rfl, hlt, p'⟩, fun v H' y => ?_⟩
    obtain ⟨rfl, c, hc, rfl⟩ := y
    exact hs i c σ H' hc p
  · have : i = x.cps.size := by omega
    subst this
    exact .inl ⟨rfl, hd σ H p⟩
section
variable {X : Cx} {tg : Expr}
def iStr (tl : TE) : TI := fun σ H R => tl σ H fun v H1 => ∃ x, v = .str x ∧ R (Its x) H1
theorem pi_str {l : Expr} {tl : TE} (hl : PE X l tl) : PI X tg l (iStr tl) := by
  intro pins s σ H R I h
  refine thn (hl pins s σ H _ I h) fun v s1 ⟨y, H1, I1, r1, q1⟩ => ?_
  obtain ⟨x, e, q⟩ := q1
  subst e
  obtain ⟨t, rfl⟩ := r1
  have fin : ∀ (n : String) (o : Obj) (T : Turn X.prog X.w X.K tg (Its x) [s1.heap.objs.size] s1.heap.objs.size (fun i h => h.IsStrIter s1.heap.objs.size n x t i)), (s1.heap.push o).IsStrIter s1.heap.objs.size n x t 0 →
      PIE X pins σ tg R (.ref s1.heap.objs.size) { s1 with heap := s1.heap.push o } := fun n o T st =>
    ⟨s1.heap.objs.size, [s1.heap.objs.size], _, _, H1, rfl, I1.kept (t' := s1.toks) fun b o e => Heap.get?_push_of_some _ e, T, st, fun b hb => by
      have e : b = s1.heap.objs.size := by simpa using hb
      subst e
      exact I1.fpOk (Nat.le_refl _) (I1.hok.fresh (Nat.le_refl _)), q⟩
  cases ha : x.cps.all (· < 128)
  · exact wpAny_pyIter_wide ha (fin "str_iterator" _ (turn_str _ (by decide) (fun A hA => Walks.strWide hA _ x t) fun A i s Q E st h => wpAny_pyIter_striter_wide st h) ⟨_, Heap.get?_push_size _ rfl, rfl, rfl⟩)
  · exact wpAny_pyIter_ascii ha (fin "str_ascii_iterator" _ (turn_str _ (by decide) (fun A hA => Walks.strAscii hA _ x t) fun A i s Q E st h => wpAny_pyIter_striter_ascii st h) ⟨_, Heap.get?_push_size _ rfl, rfl, rfl⟩)
end
/-! ### strip, repetition, slices of texts -/
section
variable {X : Cx}
def rStrip : V → List V → Hp → VK → Prop := fun x vs H Q => ∃ z y, x = .str z ∧ vs = [.str y] ∧ z.length ≤ sizeLine ∧ Q (.str (Txt.stripChars z y)) H
theorem mt_strip : MtR X "str.strip" rStrip := by
  intro pins s σ H x vs v us Q I rx rv h
  obtain ⟨z, y, rfl, rfl, hz, q⟩ := h
  obtain ⟨t, rfl⟩ := rx
  obtain ⟨_, rfl, u, rfl⟩ := rv.one
  exact SC.stripChars (fun t' k => ⟨.str _, H, I.tok k, ⟨t', rfl⟩, q⟩) hz
variable {a e : Expr} {ta te : TE} {apos cpos : Pos}
theorem pe_strip (ha : PE X a ta) (he : PE X e te) (hbase : attributeBase a "strip" X.env (eval a X.env) = eval a X.env := by rfl)
    (hfew : ((backTo cpos (starEach [e] X.env)).all (fun x => !x.1) && (backToKw cpos (keywordEach [] X.env)).all (fun x => x.1.isSome)
      && decide (([e] : List Expr).length + ([] : List Keyword).length + (if ([] : List Keyword).isEmpty then 0 else 1) < 30)) = true := by rfl)
    (hline : (apos.endLine == cpos.line) = true := by rfl) (hs : starEach [e] X.env = (false, eval e X.env) :: starEach [] X.env := by rfl) (hplain : (backTo cpos (starEach [] X.env)).any (·.1) = false := by rfl) :
    PE X (.Call (.Attribute a "strip" apos) [e] [] cpos) (tBM X.K "str" rStrip ta (tCons te tNil)) :=
  pe_bm PySem.F.plainAttrs_str PySem.F.slot_str_strip PySem.F.type_str_strip mt_strip ha (pa_cons he pa_nil hs) hbase hfew hline hs hplain
theorem op_rep_str : OpR X (binaryOp .Mult) (fun x y H Q => ∃ z n, x = .str z ∧ y = .int n ∧ 2 ≤ n ∧ n ≤ 10000 ∧ z.length = 1 ∧ ∀ z', z'.length = n.toNat → Q (.str z') H) := by
  intro pins s σ H x y v u Q I rx ry h
  obtain ⟨z, n, rfl, rfl, h1, h2, hz, q⟩ := h
  obtain ⟨t, rfl⟩ := rx
  obtain ⟨t', rfl⟩ := ry
  refine P.mul_str (by rw [decide_eq_false (by omega), decide_eq_false (by omega)]; rfl) (fun _ _ => ?_) (fun _ _ => ?_) ?_
  · rw [hz]
    have : (1 : Int) ≤ (2 ^ 63 - 1) / n := Int.le_ediv_of_mul_le (by omega) (by omega)
    omega
  · rw [hz]; unfold Builtin.Str.tooLong; simp [sizeLine_eq]; omega
  · rw [if_neg (by omega), if_neg (by rw [hz]; simp; omega)]
    have hf : ∀ (k : Nat) (acc : Array Nat), ((List.replicate k z.cps).foldl (· ++ ·) acc).size = acc.size + k := by
      intro k
      induction k with
      | zero => intro acc; rfl
      | succ k ih =>
        intro acc
        rw [List.replicate_succ, List.foldl_cons, ih, Array.size_append, show z.cps.size = 1 from hz]
        omega
    have hl : (⟨(List.replicate n.toNat z.cps).foldl (· ++ ·) #[]⟩ : Str).length = n.toNat := by
      show Array.size _ = _
      rw [hf]; simp
    exact ⟨by rw [hl, sizeLine_eq]; omega, .str _, H, I.tok _, ⟨_, rfl⟩, q _ hl⟩
end
/-! ### min of a list of ints -/
section
variable {X : Cx}
theorem call_minL (hc : X.calm = true) : CallR X (.builtin "min") (fun xs H Q => ∃ (a : Addr) (ns : List Int), xs = [.ref a] ∧ SqL X.K H a (ns.map V.int) ∧ 0 < ns.length ∧ ∀ M, M ∈ ns → (∀ x ∈ ns, M ≤ x) → Q (.int M) H) := by
  intro pins s σ H xs us Q I r h
  obtain ⟨a, ns, rfl, hl, hne, q⟩ := h
  obtain ⟨u, rfl, rx⟩ := vals1 r
  cases rx
  obtain ⟨its, rv, pl, _⟩ := I.list hl
  have hi := intsAre_of rv
  obtain ⟨ps, e⟩ := hi.allInts.items
  have en : ns = ps.toList.map (·.1) := by rw [← hi.numsOf, ← nums_intItems, ← e]
  have sz : 0 < ps.size := by rw [en] at hne; simpa using hne
  have pl' := pl.isList
  rw [e] at pl'
  refine min_intList (I.ok.hd hc) pl' sz fun v h' tk hv hk => ?_
  obtain ⟨t, rfl⟩ := intItems_at hv
  obtain ⟨h1, h2⟩ := argBest_lt (numAt ps) (ps.size - 1)
  refine ⟨.int _, H, I.kept (t' := tk) fun b o e => hk b o e, ⟨t, rfl⟩, q _ ?_ fun x hx => ?_⟩
  · rw [en, numAt_eq]
    exact getD_mem (by rw [List.length_map, Array.length_toList]; exact Nat.lt_of_le_of_lt h1 (Nat.sub_lt sz Nat.one_pos))
  · rw [en] at hx
    obtain ⟨j, hj, rfl⟩ := mem_getD hx
    rw [← numAt_eq]
    exact h2 j (by simp at hj; omega)
end
/-! ### slices of texts, by their length -/
section
variable {X : Cx}
theorem sl_str : SlR X (fun v lo hi H Q => ∃ x, v = .str x ∧ x.length ≤ sizeLine ∧ ∀ z, z.length ≤ x.length → Q (.str z) H) := by
  intro pins s σ H x v vl vu lo hi sl Q I rx hs pl pu h
  obtain ⟨z, rfl, hz, q⟩ := h
  obtain ⟨t, rfl⟩ := rx
  obtain ⟨o, ho, hc, hd⟩ := hs
  have fin : ∀ (l u : Option (Int × Tok)), vl = partValue l → vu = partValue u → ∃ T id, typeLookup (.type T) "__getitem__" = pure (some (.builtin id)) ∧ s.TypeIs (.str z t) T ∧ wpAny (model X.prog X.w) X.A (getItem (.str z t) (.ref sl)) (EP X pins σ Q) X.xe s := fun l u e1 e2 => by
    subst e1 e2
    exact ⟨"str", _, PySem.F.slot_str_getitem.lookup, typeIs_str _ _ _, wpAny_getItem_str_slice (l := l) (u := u) (st := none) ⟨o, ho, hc, hd⟩ rfl
      (post_val_or_str ⟨Nat.le_trans (Txt.slice_le z _ _) hz, fun t' k => ⟨.str _, H, I.tok k, ⟨t', rfl⟩, q _ (Txt.slice_le z _ _)⟩⟩)⟩
  cases pl with
  | none =>
    cases pu with
    | none => exact fin none none rfl rfl
    | int j u => exact fin none (some (j, u)) rfl rfl
  | int i t' =>
    cases pu with
    | none => exact fin (some (i, t')) none rfl rfl
    | int j u => exact fin (some (i, t')) (some (j, u)) rfl rfl
/-! ### list.index -/
def rIndex (X : Cx) : V → List V → Hp → VK → Prop := fun x vs H Q => ∃ (α : Type) (_ : DecidableEq α) (R : V → α → Prop) (l : Addr) (xs : List V) (as : List α) (y : V) (a : α) (j : Nat), x = .ref l ∧ vs = [y] ∧ EqR X H 19 R ∧ SqL X.K H l xs ∧ Paired R xs as ∧ R y a ∧ j < 10000 ∧ as[j]? = some a ∧ (∀ m, m < j → as[m]? ≠ some a) ∧ Q (.int j) H
open Classical in
theorem mt_index (hu : X.A.units + 20 < cLine) : MtR X "list.index" (rIndex X) := by
  intro pins s σ H x vs v us Q I rx rv h
  obtain ⟨α, _, R, l, xs, as, y, a, j, rfl, rfl, hR, hs, pa, ra, hj, ej, nj, q⟩ := h
  cases rx
  obtain ⟨u, rfl, ru⟩ := rv.one
  obtain ⟨its, r, pl, _⟩ := I.list hs
  have one : ∀ x c c', R x c → R x c' → c = c' := fun x c c' h1 h2 => hR.one x c c' h1 h2 ⟨pins, σ, s, I⟩
  have l1 := r.length
  have l2 := pa.length
  have hjl : j < as.length := (List.getElem?_eq_some_iff.mp ej).1
  obtain ⟨⟨cls, dd, data, sl⟩, n, ho, hc, hsl, hd⟩ := id pl
  simp only at hc hd
  subst hc hd
  have at_ : ∀ m (hm : m < its.toArray.size), ∃ x c, xs[m]? = some x ∧ RelV x its.toArray[m] ∧ as[m]? = some c ∧ R x c := fun m hm => by
    have hm' : m < its.length := by simpa using hm
    have ex : xs[m]? = some (xs[m]'(by omega)) := List.getElem?_eq_getElem (by omega)
    obtain ⟨w', e1, e2⟩ := vals_get r ex
    obtain ⟨c, e3, e4⟩ := L2.Paired.get pa ex
    have : its.toArray[m] = w' := by
      obtain ⟨_, z⟩ := List.getElem?_eq_some_iff.mp e1
      simpa using z
    exact ⟨_, c, ex, by rw [this]; exact e2, e3, e4⟩
  refine call_meets PySem.F.slot_list_index ⟨_, ho, rfl⟩ PySem.F.entry_list_index (PySem.F.args_list_index_2 _ _)
    (SeqAt.list_indexAt l its.toArray n dd sl u (fun u => decide (∃ x c, RelV x u ∧ R x c ∧ c = a)) j (by simp; omega) (by omega) ?_ fun m hm hlt => ?_)
    ⟨ho, fun w' hw => mem_eqR hR I hu ru ra r pa w' (by simpa using hw), .int j, H, I.tok _, ⟨_, rfl⟩, q⟩
  · obtain ⟨x, c, _, e2, e3, e4⟩ := at_ j (by simp; omega)
    have e5 : a = c := Option.some.inj (ej.symm.trans e3)
    exact decide_eq_true ⟨x, c, e2, e4, e5.symm⟩
  · obtain ⟨x, c, _, e2, e3, e4⟩ := at_ m hm
    refine decide_eq_false ?_
    rintro ⟨x', c', r', f', rfl⟩
    have := e2.inj r'
    subst this
    have := one _ _ _ e4 f'
    subst this
    exact nj m hlt e3
variable {a e : Expr} {ta te : TE} {apos cpos : Pos}
end
end L2

namespace J
/-! moves and states, by plain lists -/
inductive Mv where
  | pour (a b : Nat) | fill (a : Nat) | emp (a : Nat)
  deriving DecidableEq
def at0 (l : List Int) (i : Nat) : Int := l.getD i 0
def pours (n : Nat) : List Mv := (List.range n).flatMap fun a => ((List.range n).filter fun b => b != a).map fun b => Mv.pour a b
def moves (n : Nat) (tap : Bool) : List Mv := pours n ++ if tap = true then (List.range n).map Mv.fill ++ (List.range n).map Mv.emp else []
structure IsSt (sz st : List Int) : Prop where
  len : st.length = sz.length
  bnd : ∀ i, i < sz.length → 0 ≤ at0 st i ∧ at0 st i ≤ at0 sz i
/-! all states -/
def prod1 (sz : List Int) : Int := sz.foldl (fun m s => m * (s + 1)) 1
end J

namespace J
open PySem Builtin Builtin.Str
/-! ### numbers in words -/
abbrev figs : Str := "0123456789"
def isFig (c : Nat) : Bool := decide (48 ≤ c) && decide (c ≤ 57)
def okL : List Nat → Bool
  | [c] => isFig c
  | [c, d] => isFig c && isFig d && c != 48
  | _ => false
def numL : List Nat → Nat
  | [c] => c - 48
  | [c, d] => (c - 48) * 10 + (d - 48)
  | _ => 0
def okW (x : Str) : Bool := okL x.cps.toList
def numW (x : Str) : Nat := numL x.cps.toList
theorem str_ext {x : Str} {l : List Nat} (h : x.cps.toList = l) : x = ⟨l.toArray⟩ := by
  obtain ⟨⟨m⟩⟩ := x
  cases h
  rfl
theorem fig_cases {c : Nat} (h : isFig c = true) : ∃ k, k < 10 ∧ c = 48 + k := by
  unfold isFig at h
  simp only [Bool.and_eq_true, decide_eq_true_eq] at h
  exact ⟨c - 48, by omega, by omega⟩
theorem ok_cases {x : Str} (h : okW x = true) : (∃ k, k < 10 ∧ x = ⟨#[48 + k]⟩ ∧ numW x = k) ∨ ∃ k l, k < 10 ∧ l < 10 ∧ 1 ≤ k ∧ x = ⟨#[48 + k, 48 + l]⟩ ∧ numW x = k * 10 + l := by
  unfold okW at h
  match hx : x.cps.toList, h with
  | [c], h =>
    obtain ⟨k, hk, rfl⟩ := fig_cases h
    have := str_ext hx
    subst this
    exact .inl ⟨k, hk, rfl, by show 48 + k - 48 = k; omega⟩
  | [c, d], h =>
    simp only [okL, Bool.and_eq_true, bne_iff_ne, ne_eq] at h
    obtain ⟨k, hk, rfl⟩ := fig_cases h.1.1
    obtain ⟨l, hl, rfl⟩ := fig_cases h.1.2
    have := str_ext hx
    subst this
    exact .inr ⟨k, l, hk, hl, by omega, rfl, by show (48 + k - 48) * 10 + (48 + l - 48) = _; omega⟩
theorem int_tab1 : ∀ k : Nat, k < 10 → intText? ⟨#[48 + k]⟩ = some (k : Int) := by decide +kernel
theorem int_tab2 : ∀ k < 10, ∀ l < 10, intText? ⟨#[48 + k, 48 + l]⟩ = some ((k * 10 + l : Nat) : Int) := by decide +kernel
theorem ok_int {x : Str} (h : okW x = true) : intText? x = some (numW x : Int) := by
  rcases ok_cases h with ⟨k, hk, rfl, e⟩ | ⟨k, l, hk, hl, _, rfl, e⟩
  · rw [e]; exact int_tab1 k hk
  · rw [e]; exact int_tab2 k hk l hl
theorem ok_len {x : Str} (h : okW x = true) : x.length ≤ 2 := by
  rcases ok_cases h with ⟨k, hk, rfl, e⟩ | ⟨k, l, hk, hl, _, rfl, e⟩
  · show 1 ≤ 2; decide
  · show 2 ≤ 2; decide
theorem txt_tab1 : ∀ k : Nat, k < 10 → Str.ofString (toString (k : Int)) = ⟨#[48 + k]⟩ := by decide +kernel
theorem txt_tab2 : ∀ k < 10, ∀ l < 10, 1 ≤ k → Str.ofString (toString ((k * 10 + l : Nat) : Int)) = ⟨#[48 + k, 48 + l]⟩ := by decide +kernel
theorem ok_txt {x : Str} (h : okW x = true) : Str.ofString (toString (numW x : Int)) = x := by
  rcases ok_cases h with ⟨k, hk, rfl, e⟩ | ⟨k, l, hk, hl, h1, rfl, e⟩
  · rw [e]; exact txt_tab1 k hk
  · rw [e]; exact txt_tab2 k hk l hl h1
theorem txt_ok : ∀ k : Nat, k < 100 → okW (Str.ofString (toString (k : Int))) = true ∧ numW (Str.ofString (toString (k : Int))) = k := by decide +kernel
theorem figs_has (c : Nat) : figs.cps.contains c = isFig c := by
  have h : figs.cps = #[48, 49, 50, 51, 52, 53, 54, 55, 56, 57] := by decide +kernel
  rw [h, Bool.eq_iff_iff]
  unfold isFig
  simp only [Bool.and_eq_true, decide_eq_true_eq, Array.contains_iff_mem]
  simp
  omega
end J

namespace J
open PySem Builtin Builtin.Str
theorem occ_in (c : Nat) : (!(occurrences figs ⟨#[c]⟩ 0 figs.length 1).isEmpty) = isFig c := by
  have t1 : ∀ k : Nat, k < 10 → StrLaws.At figs ⟨#[48 + k]⟩ figs.length k := by
    have : ∀ k : Nat, k < 10 → (k + (⟨#[48 + k]⟩ : Str).length ≤ figs.length ∧ subAt figs ⟨#[48 + k]⟩ k = true) := by decide +kernel
    exact this
  have t2 : ∀ i : Nat, i < 10 → figs.cps.extract i (i + 1) = #[48 + i] := by decide +kernel
  rcases StrLaws.occ_head figs ⟨#[c]⟩ 1 (Nat.le_refl _) with ⟨e, hn⟩ | ⟨i, r, e, ⟨h1, h2⟩, _⟩
  · rw [e]
    cases h : isFig c with
    | false => rfl
    | true =>
      obtain ⟨k, hk, rfl⟩ := fig_cases h
      exact absurd (t1 k hk) (hn k)
  · rw [e]
    have hi : i < 10 := by
      have : figs.length = 10 := by decide +kernel
      have h3 : i + 1 ≤ figs.length := h1
      omega
    have h3 : (figs.cps.extract i (i + 1) == #[c]) = true := h2
    rw [t2 i hi] at h3
    have : c = 48 + i := by simpa using (beq_iff_eq.mp h3).symm
    subst this
    show true = _
    unfold isFig
    rw [decide_eq_true (by omega), decide_eq_true (by omega)]
    rfl
theorem strip_all {x : Str} (h1 : 1 ≤ x.cps.toList.length) (h2 : x.cps.toList.length ≤ 2) : decide (Txt.stripChars x figs = Str.empty) = x.cps.toList.all isFig := by
  have hg : figs.cps.contains = isFig := funext figs_has
  unfold Txt.stripChars Txt.stripBy
  rw [hg]
  have key : ∀ l : List Nat, 1 ≤ l.length → l.length ≤ 2 → decide ((if stripSame isFig true true ⟨l.toArray⟩ = true then (⟨l.toArray⟩ : Str) else stripped isFig true true ⟨l.toArray⟩) = Str.empty) = l.all isFig := by
    intro l h1 h2
    match l, h1, h2 with
    | [c], _, _ =>
      cases hc : isFig c <;> simp [stripSame, stripped, stripLo, stripHi, hc, Str.length, strSub, Str.empty]
    | [c, d], _, _ =>
      cases hc : isFig c <;> cases hd : isFig d <;> simp [stripSame, stripped, stripLo, stripHi, hc, hd, Str.length, strSub, Str.empty]
  have e := str_ext (x := x) rfl
  have := key x.cps.toList h1 h2
  rw [← e] at this
  exact this
end J

namespace J
open PySem Builtin Builtin.Str
open PySem.StrLaws
theorem kind_pos (x : Str) : 1 ≤ Builtin.Str.strKind x := by
  unfold Builtin.Str.strKind
  split
  · decide
  · split <;> decide
theorem split_eq (x y : Str) (hy : 1 ≤ y.length) (hk : Builtin.Str.strKind y = 1) : Txt.split x y = partsFrom x y.length 0 (occurrences x y 0 x.length (x.length + 1)) := by
  have none_of : occurrences x y 0 x.length (x.length + 1) = [] → [x] = partsFrom x y.length 0 (occurrences x y 0 x.length (x.length + 1)) := fun e => by
    rw [e]
    show [x] = [strSub x 0 x.length]
    rw [sub_whole]
  unfold Txt.split
  split
  case isTrue h =>
    simp only [Bool.or_eq_true, decide_eq_true_eq] at h
    have := kind_pos x
    have hl : x.length < y.length := by omega
    refine none_of ?_
    obtain ⟨f, hc⟩ := occ_chain x y (x.length + 1)
    cases e : occurrences x y 0 x.length (x.length + 1) with
    | nil => rfl
    | cons c r =>
      rw [e] at hc
      have := hc.2.1.1
      omega
  case isFalse h =>
    split
    case isTrue h2 => exact none_of (List.isEmpty_iff.mp h2)
    case isFalse h2 => exact partsBetween_eq _ _ _
/-! ### split behind join, the sign c standing in the glue's head alone -/
theorem at_iff {x y : Str} {k : Nat} : At x y x.length k ↔ k + y.length ≤ x.length ∧ (x.cps.toList.drop k).take y.length = y.cps.toList := by
  unfold At subAt
  constructor
  · rintro ⟨h1, h2⟩
    refine ⟨h1, ?_⟩
    have := congrArg Array.toList (beq_iff_eq.mp h2)
    rw [Array.toList_extract] at this
    simpa [List.extract] using this
  · rintro ⟨h1, h2⟩
    refine ⟨h1, ?_⟩
    rw [beq_iff_eq]
    apply Array.toList_inj.mp
    rw [Array.toList_extract]
    simpa [List.extract] using h2
def joinL (y : List Nat) : List (List Nat) → List Nat
  | [] => []
  | [p] => p
  | p :: q :: r => p ++ y ++ joinL y (q :: r)
theorem join_toList (y : Str) : ∀ l : List Str, (Str.join y l).cps.toList = joinL y.cps.toList (l.map (·.cps.toList))
  | [] => rfl
  | [p] => rfl
  | p :: q :: r => by
    have ih := join_toList y (q :: r)
    show (p ++ y ++ Str.join y (q :: r)).cps.toList = _
    show (p.cps ++ y.cps ++ (Str.join y (q :: r)).cps).toList = _
    rw [Array.toList_append, Array.toList_append, ih]
    rfl
theorem parts_join {x y : Str} {c : Nat} {yr : List Nat} (hy : y.cps.toList = c :: yr) : ∀ (ps : List Str) (a f : Nat) (cuts : List Nat), ps ≠ [] → (∀ p ∈ ps, c ∉ p.cps.toList) → a ≤ x.length →
    x.cps.toList.drop a = joinL y.cps.toList (ps.map (·.cps.toList)) → ChainG x y x.length a cuts f → (∀ k, f ≤ k → ¬ At x y x.length k) → partsFrom x y.length a cuts = ps
  | [], _, _, _, h, _, _, _, _, _ => absurd rfl h
  | [p], a, f, cuts, _, hp, ha, hx, hc, hf => by
    have hlen : x.length = x.cps.toList.length := by simp [Str.length]
    have no : ∀ k, a ≤ k → ¬ At x y x.length k := fun k hk h => by
      obtain ⟨h1, h2⟩ := at_iff.mp h
      have hyl : y.length = (c :: yr).length := by rw [← hy]; simp [Str.length]
      rw [hy, hyl] at h2
      have h3 : x.cps.toList.drop k = (x.cps.toList.drop a).drop (k - a) := by rw [List.drop_drop]; congr 1; omega
      rw [h3, hx] at h2
      have h4 : c ∈ (joinL y.cps.toList ([p].map (·.cps.toList))).drop (k - a) := List.mem_of_mem_take (by rw [h2]; exact List.mem_cons_self)
      exact hp p List.mem_cons_self (List.mem_of_mem_drop h4)
    cases cuts with
    | cons d r => exact absurd hc.2.1 (no d hc.1)
    | nil =>
      show [strSub x a x.length] = [p]
      congr 1
      apply Str.ext'
      apply Array.toList_inj.mp
      rw [strSub_toList, List.take_of_length_le (by rw [List.length_drop]; omega), hx]
      rfl
  | p :: q :: r, a, f, cuts, _, hp, ha, hx, hc, hf => by
    have hlen : x.length = x.cps.toList.length := by simp [Str.length]
    have hyl : y.length = (c :: yr).length := by rw [← hy]; simp [Str.length]
    have hx : x.cps.toList.drop a = p.cps.toList ++ y.cps.toList ++ joinL y.cps.toList ((q :: r).map (·.cps.toList)) := hx
    have hl := congrArg List.length hx
    rw [List.length_drop, List.length_append, List.length_append] at hl
    have hyl' : y.cps.toList.length = y.length := by simp [Str.length]
    have drp : ∀ k, x.cps.toList.drop (a + k) = (p.cps.toList ++ y.cps.toList ++ joinL y.cps.toList ((q :: r).map (·.cps.toList))).drop k := fun k => by rw [← hx, List.drop_drop]
    have at0 : At x y x.length (a + p.cps.toList.length) := at_iff.mpr ⟨by omega, by
      rw [drp, List.append_assoc, List.drop_left, ← hyl', List.take_left]⟩
    have no : ∀ k, a ≤ k → k < a + p.cps.toList.length → ¬ At x y x.length k := fun k hk hk2 h => by
      obtain ⟨h1, h2⟩ := at_iff.mp h
      have h3 := drp (k - a)
      rw [show a + (k - a) = k by omega] at h3
      rw [h3, hy, hyl, List.append_assoc, List.drop_append_of_le_length (by omega)] at h2
      have hd : p.cps.toList.drop (k - a) ≠ [] := fun z => by
        have := congrArg List.length z
        rw [List.length_drop, List.length_nil] at this
        omega
      cases e : p.cps.toList.drop (k - a) with
      | nil => exact hd e
      | cons d t =>
        rw [e] at h2
        simp only [List.cons_append, List.length_cons, List.take_succ_cons, List.cons.injEq] at h2
        have : d ∈ p.cps.toList := List.mem_of_mem_drop (by rw [e]; exact List.mem_cons_self)
        rw [h2.1] at this
        exact hp p List.mem_cons_self this
    cases cuts with
    | nil =>
      have e : f = a := hc
      exact absurd at0 (hf _ (by omega))
    | cons d rr =>
      obtain ⟨h1, h2, h3, h4⟩ := hc
      have hd : d = a + p.cps.toList.length := by
        rcases Nat.lt_trichotomy d (a + p.cps.toList.length) with z | z | z
        · exact absurd h2 (no d h1 z)
        · exact z
        · exact absurd at0 (h3 _ (by omega) z)
      subst hd
      show strSub x a (a + p.cps.toList.length) :: partsFrom x y.length (a + p.cps.toList.length + y.length) rr = _
      rw [parts_join hy (q :: r) _ f rr (by simp) (fun z hz => hp z (List.mem_cons_of_mem _ hz)) (by omega) (by
        rw [Nat.add_assoc, drp, List.append_assoc, List.drop_append, List.drop_of_length_le (by omega), List.nil_append, show p.cps.toList.length + y.length - p.cps.toList.length = y.cps.toList.length by omega, List.drop_left]) h4 hf]
      congr 1
      apply Str.ext'
      apply Array.toList_inj.mp
      rw [strSub_toList, hx, show a + p.cps.toList.length - a = p.cps.toList.length by omega, List.append_assoc, List.take_left]
theorem split_join {y : Str} {c : Nat} {yr : List Nat} (hy : y.cps.toList = c :: yr) (hk : Builtin.Str.strKind y = 1) {ps : List Str} (h0 : ps ≠ []) (hp : ∀ p ∈ ps, c ∉ p.cps.toList) : Txt.split (Str.join y ps) y = ps := by
  have hl : 1 ≤ y.length := by
    have : y.length = y.cps.toList.length := by simp [Str.length]
    rw [this, hy]; simp
  rw [split_eq _ _ hl hk]
  obtain ⟨f, hc, hf⟩ := occ_tight (Str.join y ps) y hl
  exact parts_join hy ps 0 f _ h0 hp (Nat.zero_le _) (by rw [List.drop_zero]; exact join_toList y ps) hc hf
end J

namespace J
open PySem Builtin
open PySem.StrLaws
theorem tjoin (sep : Str) (l : List Str) : Txt.join sep l = Str.join sep l := glued_eq_join sep l
/-! ### houses in words -/
abbrev jugs : Str := "jugs"
abbrev tapS : Str := "tap"
def wds (x : Str) : List Str := Txt.split x " "
def tapW (x : Str) : Bool := decide ((wds x).getLast? = some tapS)
def wd (x : Str) : List Str := if tapW x = true then (wds x).dropLast else wds x
def hzB (sz : List Int) : Bool := decide (1 ≤ sz.length) && decide (sz.length ≤ 4) && sz.all (fun s => decide (1 ≤ s) && decide (s ≤ 60)) && decide (prod1 sz ≤ 2000)
def szW (x : Str) : List Int := ((wd x).drop 1).map fun w => (numW w : Int)
def hsOk (x : Str) : Bool := decide ((wd x).take 1 = [jugs]) && ((wd x).drop 1).all okW && hzB (szW x)
def numT (n : Int) : Str := Str.ofString (toString n)
def hsText (sz : List Int) (tap : Bool) : Str := Txt.join " " (([jugs] ++ sz.map numT) ++ (if tap = true then [tapS] else []))
theorem wds_eq (x : Str) : wds x = wd x ++ (if tapW x = true then [tapS] else []) := by
  unfold wd
  by_cases h : tapW x = true
  · rw [if_pos h, if_pos h]
    have h2 : (wds x).getLast? = some tapS := by simpa [tapW] using h
    obtain ⟨l, e⟩ := List.getLast?_eq_some_iff.mp h2
    rw [e]; simp
  · rw [if_neg h, if_neg h]; simp
theorem num_txt : ∀ {l : List Str}, l.all okW = true → (l.map fun w => (numW w : Int)).map numT = l
  | [], _ => rfl
  | w :: l, h => by
    simp only [List.all_cons, Bool.and_eq_true] at h
    rw [List.map_cons, List.map_cons, num_txt h.2]
    congr 1
    exact ok_txt h.1
theorem hs_rt {x : Str} (h : hsOk x = true) : hsText (szW x) (tapW x) = x := by
  unfold hsOk at h
  simp only [Bool.and_eq_true, decide_eq_true_eq] at h
  have e : wd x = [jugs] ++ (wd x).drop 1 := by
    conv => lhs; rw [← List.take_append_drop 1 (wd x), h.1.1]
  unfold hsText
  rw [tjoin]
  have e2 : (szW x).map numT = (wd x).drop 1 := num_txt h.1.2
  rw [e2, ← e, ← wds_eq]
  exact join_split x " "
theorem hz_all {sz : List Int} (h : hzB sz = true) : 1 ≤ sz.length ∧ sz.length ≤ 4 ∧ (∀ s ∈ sz, 1 ≤ s ∧ s ≤ 60) ∧ prod1 sz ≤ 2000 := by
  unfold hzB at h
  simp only [Bool.and_eq_true, decide_eq_true_eq, List.all_eq_true] at h
  exact ⟨h.1.1.1, h.1.1.2, h.1.2, h.2⟩
def lawNum (most : Int) (x : Str) : Int := if (okW x && decide ((numW x : Int) ≤ most)) = true then numW x else -1
theorem law_pos {most : Int} {x : Str} (h : 0 ≤ lawNum most x) : okW x = true ∧ (numW x : Int) ≤ most ∧ lawNum most x = numW x := by
  unfold lawNum at h ⊢
  by_cases c : (okW x && decide ((numW x : Int) ≤ most)) = true
  · rw [if_pos c]
    simp only [Bool.and_eq_true, decide_eq_true_eq] at c
    exact ⟨c.1, c.2, rfl⟩
  · rw [if_neg c] at h; omega
theorem law_nums : ∀ {l : List Str}, (∀ n ∈ l.map (lawNum 60), 1 ≤ n) → l.all okW = true ∧ (∀ s ∈ l.map (fun w => (numW w : Int)), 1 ≤ s ∧ s ≤ 60) ∧ l.map (lawNum 60) = l.map fun w => (numW w : Int)
  | [], _ => ⟨rfl, fun s h => (by simp at h), rfl⟩
  | w :: l, h => by
    have h1 := h (lawNum 60 w) (by simp)
    obtain ⟨a, b, c⟩ := law_pos (by omega : 0 ≤ lawNum 60 w)
    obtain ⟨i1, i2, i3⟩ := law_nums (l := l) fun n hn => h n (by simp at hn ⊢; exact .inr hn)
    refine ⟨by simp [a]; simpa using i1, fun s hs => ?_, by rw [List.map_cons, List.map_cons, i3, c]⟩
    rw [List.map_cons, List.mem_cons] at hs
    rcases hs with rfl | hs
    · omega
    · exact i2 s hs
theorem law_nums' {l : List Str} (h1 : l.all okW = true) (h2 : ∀ s ∈ l.map (fun w => (numW w : Int)), 1 ≤ s ∧ s ≤ 60) : l.map (lawNum 60) = l.map fun w => (numW w : Int) := by
  refine List.map_congr_left fun w hw => ?_
  have h3 := h2 _ (List.mem_map_of_mem (f := fun w => (numW w : Int)) hw)
  have h4 := List.all_eq_true.mp h1 w hw
  unfold lawNum
  rw [if_pos (by rw [h4, decide_eq_true (by exact h3.2)]; rfl)]
/-- what the law reads -/
def lawHs (x : Str) : Bool := decide ((wd x).take 1 = [jugs]) && (decide (1 ≤ ((wd x).drop 1).length) && decide (((wd x).drop 1).length ≤ 4)) && ((wd x).drop 1).all (fun w => decide (1 ≤ lawNum 60 w)) && decide (prod1 (((wd x).drop 1).map (lawNum 60)) ≤ 2000)
theorem law_hs (x : Str) : lawHs x = hsOk x ∧ (hsOk x = true → ((wd x).drop 1).map (lawNum 60) = szW x) := by
  have key : hsOk x = true → ((wd x).drop 1).map (lawNum 60) = szW x := fun h => by
    unfold hsOk at h
    simp only [Bool.and_eq_true, decide_eq_true_eq] at h
    exact law_nums' h.1.2 (hz_all h.2).2.2.1
  refine ⟨?_, key⟩
  rw [Bool.eq_iff_iff]
  constructor
  · intro h
    unfold lawHs at h
    simp only [Bool.and_eq_true, decide_eq_true_eq, List.all_eq_true] at h
    obtain ⟨⟨⟨h1, h2, h3⟩, h4⟩, h5⟩ := h
    obtain ⟨i1, i2, i3⟩ := law_nums (l := (wd x).drop 1) fun n hn => by
      obtain ⟨w, hw, rfl⟩ := List.mem_map.mp hn
      exact h4 w hw
    unfold hsOk hzB
    rw [decide_eq_true h1, i1]
    rw [i3] at h5
    have l1 : (szW x).length = ((wd x).drop 1).length := by unfold szW; rw [List.length_map]
    rw [l1, decide_eq_true h2, decide_eq_true h3, decide_eq_true (show prod1 (szW x) ≤ 2000 from h5)]
    have : (szW x).all (fun s => decide (1 ≤ s) && decide (s ≤ 60)) = true := by
      rw [List.all_eq_true]
      intro s hs
      have := i2 s hs
      rw [decide_eq_true this.1, decide_eq_true this.2]; rfl
    rw [this]; rfl
  · intro h
    have hm := key h
    unfold hsOk at h
    simp only [Bool.and_eq_true, decide_eq_true_eq] at h
    obtain ⟨a, b, c, d⟩ := hz_all h.2
    have l1 : (szW x).length = ((wd x).drop 1).length := by unfold szW; rw [List.length_map]
    unfold lawHs
    rw [decide_eq_true h.1.1, hm, decide_eq_true d, decide_eq_true (by omega : 1 ≤ ((wd x).drop 1).length), decide_eq_true (by omega : ((wd x).drop 1).length ≤ 4)]
    have : ((wd x).drop 1).all (fun w => decide (1 ≤ lawNum 60 w)) = true := by
      rw [List.all_eq_true]
      intro w hw
      have h6 : lawNum 60 w ∈ szW x := by rw [← hm]; exact List.mem_map_of_mem hw
      exact decide_eq_true (c _ h6).1
    rw [this]; rfl
/-! ### moves in words -/
def mvOf (p : Str) : Option Mv := match wds p with
  | [s, a] => if (okW a && decide (numW a ≤ 3)) = true then (if s = "fill" then some (.fill (numW a)) else if s = "empty" then some (.emp (numW a)) else none) else none
  | [s, a, b] => if (decide (s = "pour") && okW a && okW b && decide (numW a ≤ 3) && decide (numW b ≤ 3) && decide (numW a ≠ numW b)) = true then some (.pour (numW a) (numW b)) else none
  | _ => none
def mvT : Mv → Str
  | .pour a b => Txt.join " " ["pour", numT a, numT b]
  | .fill a => Txt.join " " ["fill", numT a]
  | .emp a => Txt.join " " ["empty", numT a]
theorem mv_rt {p : Str} {m : Mv} (h : mvOf p = some m) : mvT m = p := by
  have hj : Str.join " " (wds p) = p := join_split p " "
  unfold mvOf at h
  split at h
  case h_1 s a e =>
    rw [e] at hj
    by_cases c : (okW a && decide (numW a ≤ 3)) = true
    · rw [if_pos c] at h
      simp only [Bool.and_eq_true, decide_eq_true_eq] at c
      have ea : numT (numW a) = a := ok_txt c.1
      by_cases c1 : s = "fill"
      · rw [if_pos c1] at h
        cases h
        show Txt.join " " ["fill", numT (numW a)] = p
        rw [ea, ← c1, tjoin]; exact hj
      · rw [if_neg c1] at h
        by_cases c2 : s = "empty"
        · rw [if_pos c2] at h
          cases h
          show Txt.join " " ["empty", numT (numW a)] = p
          rw [ea, ← c2, tjoin]; exact hj
        · rw [if_neg c2] at h; cases h
    · rw [if_neg c] at h; cases h
  case h_2 s a b e =>
    rw [e] at hj
    by_cases c : (decide (s = "pour") && okW a && okW b && decide (numW a ≤ 3) && decide (numW b ≤ 3) && decide (numW a ≠ numW b)) = true
    · rw [if_pos c] at h
      cases h
      simp only [Bool.and_eq_true, decide_eq_true_eq] at c
      have ea : numT (numW a) = a := ok_txt c.1.1.1.1.2
      have eb : numT (numW b) = b := ok_txt c.1.1.1.2
      show Txt.join " " ["pour", numT (numW a), numT (numW b)] = p
      rw [ea, eb, ← c.1.1.1.1.1, tjoin]; exact hj
    · rw [if_neg c] at h; cases h
  case h_3 => cases h
def rtOk (x : Str) : Bool := decide (x = "") || (Txt.split x "; ").all fun p => (mvOf p).isSome
theorem mvs_rt : ∀ {ps : List Str} {ms : List Mv}, ps.map mvOf = ms.map some → ms.map mvT = ps
  | [], [], _ => rfl
  | [], _ :: _, h => by simp at h
  | _ :: _, [], h => by simp at h
  | p :: ps, m :: ms, h => by
    simp only [List.map_cons, List.cons.injEq] at h
    rw [List.map_cons, mvs_rt h.2, mv_rt h.1]
theorem rt_rt {x : Str} {ms : List Mv} (h : (Txt.split x "; ").map mvOf = ms.map some) : Txt.join "; " (ms.map mvT) = x := by
  rw [mvs_rt h, tjoin]
  exact join_split x "; "
/-! ### the moves' own texts -/
theorem pour_ok : ∀ a : Nat, a < 4 → ∀ b : Nat, b < 4 → a ≠ b → mvOf (mvT (.pour a b)) = some (.pour a b) ∧ 59 ∉ (mvT (.pour a b)).cps.toList ∧ (mvT (.pour a b)).length ≤ 8 := by decide +kernel
theorem fill_ok : ∀ a : Nat, a < 4 → mvOf (mvT (.fill a)) = some (.fill a) ∧ 59 ∉ (mvT (.fill a)).cps.toList ∧ (mvT (.fill a)).length ≤ 8 := by decide +kernel
theorem emp_ok : ∀ a : Nat, a < 4 → mvOf (mvT (.emp a)) = some (.emp a) ∧ 59 ∉ (mvT (.emp a)).cps.toList ∧ (mvT (.emp a)).length ≤ 8 := by decide +kernel
def mvGood : Mv → Prop
  | .pour a b => a < 4 ∧ b < 4 ∧ a ≠ b
  | .fill a => a < 4
  | .emp a => a < 4
theorem mv_ok {m : Mv} (h : mvGood m) : mvOf (mvT m) = some m ∧ 59 ∉ (mvT m).cps.toList ∧ (mvT m).length ≤ 8 := by
  cases m with
  | pour a b => exact pour_ok a h.1 b h.2.1 h.2.2
  | fill a => exact fill_ok a h
  | emp a => exact emp_ok a h
theorem semi : ("; " : Str).cps.toList = 59 :: [32] := by decide +kernel
theorem rt_ok {ms : List Mv} (h : ∀ m ∈ ms, mvGood m) : rtOk (Txt.join "; " (ms.map mvT)) = true ∧ (ms ≠ [] → (Txt.split (Txt.join "; " (ms.map mvT)) "; ").map mvOf = ms.map some) := by
  have key : ms ≠ [] → Txt.split (Txt.join "; " (ms.map mvT)) "; " = ms.map mvT := fun hn => by
    rw [tjoin]
    refine split_join semi (by decide +kernel) (by simpa using hn) fun p hp => ?_
    obtain ⟨m, hm, rfl⟩ := List.mem_map.mp hp
    exact (mv_ok (h m hm)).2.1
  have k2 : (ms.map mvT).map mvOf = ms.map some := by
    rw [List.map_map]
    exact List.map_congr_left fun m hm => (mv_ok (h m hm)).1
  refine ⟨?_, fun hn => by rw [key hn, k2]⟩
  unfold rtOk
  by_cases hn : ms = []
  · subst hn; rfl
  · rw [key hn]
    rw [Bool.or_eq_true]
    refine .inr ?_
    rw [List.all_eq_true]
    intro p hp
    obtain ⟨m, hm, rfl⟩ := List.mem_map.mp hp
    rw [(mv_ok (h m hm)).1]; rfl
end J

namespace Jug
open PySem L2
def top (i : Nat) : Stmt := PySem.Challenge.pw_jughouse_k07_written.main.body.getD i (.Pass ⟨0, 0, 0, 0⟩)
abbrev s__wall : Stmt := top 0
theorem sc__wall : FnScope ["k"] ["k"] (defScope s__wall) := ⟨rfl, rfl, rfl, by decide +kernel, rfl, by decide +kernel, by decide +kernel⟩
abbrev s_is_number : Stmt := top 11
theorem sc_is_number : FnScope ["value", "least", "most"] ["value", "least", "most"] (defScope s_is_number) := ⟨rfl, rfl, rfl, by decide +kernel, rfl, by decide +kernel, by decide +kernel⟩
abbrev s_is_jug : Stmt := top 12
theorem sc_is_jug : FnScope ["value"] ["value"] (defScope s_is_jug) := ⟨rfl, rfl, rfl, by decide +kernel, rfl, by decide +kernel, by decide +kernel⟩
abbrev s_check_jug : Stmt := top 14
theorem sc_check_jug : FnScope ["jug"] ["jug"] (defScope s_check_jug) := ⟨rfl, rfl, rfl, by decide +kernel, rfl, by decide +kernel, by decide +kernel⟩
abbrev s_Move_done : Stmt := inClass (top 15) 0
theorem sc_Move_done : FnScope ["self", "house", "state"] ["self", "house", "state"] (defScope s_Move_done) := ⟨rfl, rfl, rfl, by decide +kernel, rfl, by decide +kernel, by decide +kernel⟩
abbrev s_Move_held_behind : Stmt := inClass (top 15) 1
theorem sc_Move_held_behind : FnScope ["self", "house", "held"] ["self", "house", "held"] (defScope s_Move_held_behind) := ⟨rfl, rfl, rfl, by decide +kernel, rfl, by decide +kernel, by decide +kernel⟩
abbrev s_Pour_init : Stmt := inClass (top 16) 0
theorem sc_Pour_init : FnScope ["self", "one", "other"] ["self", "one", "other"] (defScope s_Pour_init) := ⟨rfl, rfl, rfl, by decide +kernel, rfl, by decide +kernel, by decide +kernel⟩
abbrev s_Pour_held_behind : Stmt := inClass (top 16) 1
theorem sc_Pour_held_behind : FnScope ["self", "house", "held"] ["self", "house", "held"] (defScope s_Pour_held_behind) := ⟨rfl, rfl, rfl, by decide +kernel, rfl, by decide +kernel, by decide +kernel⟩
abbrev s_Fill_init : Stmt := inClass (top 17) 0
theorem sc_Fill_init : FnScope ["self", "jug"] ["self", "jug"] (defScope s_Fill_init) := ⟨rfl, rfl, rfl, by decide +kernel, rfl, by decide +kernel, by decide +kernel⟩
abbrev s_Fill_held_behind : Stmt := inClass (top 17) 1
theorem sc_Fill_held_behind : FnScope ["self", "house", "held"] ["self", "house", "held"] (defScope s_Fill_held_behind) := ⟨rfl, rfl, rfl, by decide +kernel, rfl, by decide +kernel, by decide +kernel⟩
abbrev s_Empty_init : Stmt := inClass (top 18) 0
theorem sc_Empty_init : FnScope ["self", "jug"] ["self", "jug"] (defScope s_Empty_init) := ⟨rfl, rfl, rfl, by decide +kernel, rfl, by decide +kernel, by decide +kernel⟩
abbrev s_Empty_held_behind : Stmt := inClass (top 18) 1
theorem sc_Empty_held_behind : FnScope ["self", "house", "held"] ["self", "house", "held"] (defScope s_Empty_held_behind) := ⟨rfl, rfl, rfl, by decide +kernel, rfl, by decide +kernel, by decide +kernel⟩
abbrev s_moves_in : Stmt := top 19
theorem sc_moves_in : FnScope ["moves", "told", "move"] ["moves"] (defScope s_moves_in) := ⟨rfl, rfl, rfl, by decide +kernel, rfl, by decide +kernel, by decide +kernel⟩
abbrev s_sizes_in : Stmt := top 22
theorem sc_sizes_in : FnScope ["sizes", "told", "size"] ["sizes"] (defScope s_sizes_in) := ⟨rfl, rfl, rfl, by decide +kernel, rfl, by decide +kernel, by decide +kernel⟩
abbrev s_count_states : Stmt := top 23
theorem sc_count_states : FnScope ["sizes", "many", "size"] ["sizes"] (defScope s_count_states) := ⟨rfl, rfl, rfl, by decide +kernel, rfl, by decide +kernel, by decide +kernel⟩
abbrev s_pours_among : Stmt := top 24
theorem sc_pours_among : FnScope ["many", "pours", "one", "other"] ["many"] (defScope s_pours_among) := ⟨rfl, rfl, rfl, by decide +kernel, rfl, by decide +kernel, by decide +kernel⟩
abbrev s_House_init : Stmt := inClass (top 25) 0
theorem sc_House_init : FnScope ["self", "sizes", "tap"] ["self", "sizes", "tap"] (defScope s_House_init) := ⟨rfl, rfl, rfl, by decide +kernel, rfl, by decide +kernel, by decide +kernel⟩
abbrev s_House_sizes : Stmt := inClass (top 25) 1
theorem sc_House_sizes : FnScope ["self"] ["self"] (defScope s_House_sizes) := ⟨rfl, rfl, rfl, by decide +kernel, rfl, by decide +kernel, by decide +kernel⟩
abbrev s_House_moves : Stmt := inClass (top 25) 2
theorem sc_House_moves : FnScope ["self", "many", "told"] ["self"] (defScope s_House_moves) := ⟨rfl, rfl, rfl, by decide +kernel, rfl, by decide +kernel, by decide +kernel⟩
abbrev s_House_states : Stmt := inClass (top 25) 3
theorem sc_House_states : FnScope ["self"] ["self"] (defScope s_House_states) := ⟨rfl, rfl, rfl, by decide +kernel, rfl, by decide +kernel, by decide +kernel⟩
abbrev s_House_empty : Stmt := inClass (top 25) 4
theorem sc_House_empty : FnScope ["self"] ["self"] (defScope s_House_empty) := ⟨rfl, rfl, rfl, by decide +kernel, rfl, by decide +kernel, by decide +kernel⟩
abbrev s_house_text : Stmt := top 29
theorem sc_house_text : FnScope ["house", "words"] ["house"] (defScope s_house_text) := ⟨rfl, rfl, rfl, by decide +kernel, rfl, by decide +kernel, by decide +kernel⟩
abbrev s_move_text : Stmt := top 30
theorem sc_move_text : FnScope ["move"] ["move"] (defScope s_move_text) := ⟨rfl, rfl, rfl, by decide +kernel, rfl, by decide +kernel, by decide +kernel⟩
abbrev s_routine_text : Stmt := top 31
theorem sc_routine_text : FnScope ["moves"] ["moves"] (defScope s_routine_text) := ⟨rfl, rfl, rfl, by decide +kernel, rfl, by decide +kernel, by decide +kernel⟩
abbrev s_check_text : Stmt := top 32
theorem sc_check_text : FnScope ["text"] ["text"] (defScope s_check_text) := ⟨rfl, rfl, rfl, by decide +kernel, rfl, by decide +kernel, by decide +kernel⟩
abbrev s_number_of : Stmt := top 33
theorem sc_number_of : FnScope ["word", "sign"] ["word"] (defScope s_number_of) := ⟨rfl, rfl, rfl, by decide +kernel, rfl, by decide +kernel, by decide +kernel⟩
abbrev s_house_of : Stmt := top 34
theorem sc_house_of : FnScope ["text", "words", "tap", "sizes"] ["text"] (defScope s_house_of) := ⟨rfl, rfl, rfl, by decide +kernel, rfl, by decide +kernel, by decide +kernel⟩
abbrev s_move_in_words : Stmt := top 35
theorem sc_move_in_words : FnScope ["sort", "jugs"] ["sort", "jugs"] (defScope s_move_in_words) := ⟨rfl, rfl, rfl, by decide +kernel, rfl, by decide +kernel, by decide +kernel⟩
abbrev s_move_of : Stmt := top 36
theorem sc_move_of : FnScope ["text", "words", "jugs"] ["text"] (defScope s_move_of) := ⟨rfl, rfl, rfl, by decide +kernel, rfl, by decide +kernel, by decide +kernel⟩
abbrev s_routine_of : Stmt := top 37
theorem sc_routine_of : FnScope ["text"] ["text"] (defScope s_routine_of) := ⟨rfl, rfl, rfl, by decide +kernel, rfl, by decide +kernel, by decide +kernel⟩
abbrev s__law_cell_at : Stmt := top 39
theorem sc__law_cell_at : FnScope ["_law_script", "_law_k"] ["_law_script", "_law_k"] (defScope s__law_cell_at) := ⟨rfl, rfl, rfl, by decide +kernel, rfl, by decide +kernel, by decide +kernel⟩
abbrev s__law_draw : Stmt := top 40
theorem sc__law_draw : FnScope ["_law_cell", "_law_k", "_law_many", "_law_primes"] ["_law_cell", "_law_k", "_law_many"] (defScope s__law_draw) := ⟨rfl, rfl, rfl, by decide +kernel, rfl, by decide +kernel, by decide +kernel⟩
abbrev s__law_sizes : Stmt := top 41
theorem sc__law_sizes : FnScope ["_law_cell", "_law_many", "_law_most"] ["_law_cell"] (defScope s__law_sizes) := ⟨rfl, rfl, rfl, by decide +kernel, rfl, by decide +kernel, by decide +kernel⟩
abbrev s__law_state : Stmt := top 42
theorem sc__law_state : FnScope ["_law_cell", "_law_sizes_here", "_law_state_here", "_law_k", "_law_kind"] ["_law_cell", "_law_sizes_here"] (defScope s__law_state) := ⟨rfl, rfl, rfl, by decide +kernel, rfl, by decide +kernel, by decide +kernel⟩
abbrev s__law_all_moves : Stmt := top 43
theorem sc__law_all_moves : FnScope ["_law_sizes_here", "_law_tap", "_law_jugs", "_law_found", "_law_one"] ["_law_sizes_here", "_law_tap"] (defScope s__law_all_moves) := ⟨rfl, rfl, rfl, by decide +kernel, rfl, by decide +kernel, by decide +kernel⟩
abbrev s__law_move_text : Stmt := top 44
theorem sc__law_move_text : FnScope ["_law_told", "_law_sort", "_law_one", "_law_other"] ["_law_told"] (defScope s__law_move_text) := ⟨rfl, rfl, rfl, by decide +kernel, rfl, by decide +kernel, by decide +kernel⟩
abbrev s__law_number : Stmt := top 45
theorem sc__law_number : FnScope ["_law_text", "_law_most"] ["_law_text", "_law_most"] (defScope s__law_number) := ⟨rfl, rfl, rfl, by decide +kernel, rfl, by decide +kernel, by decide +kernel⟩
abbrev s__law_house_in : Stmt := top 46
theorem sc__law_house_in : FnScope ["_law_text", "_law_words", "_law_tap", "_law_sizes_here", "_law_states", "_law_size"] ["_law_text"] (defScope s__law_house_in) := ⟨rfl, rfl, rfl, by decide +kernel, rfl, by decide +kernel, by decide +kernel⟩
abbrev s__law_writes : Stmt := top 47
theorem sc__law_writes : FnScope ["_law_text", "_law_one", "_law_words", "_law_numbers", "_law_right_here"] ["_law_text"] (defScope s__law_writes) := ⟨rfl, rfl, rfl, by decide +kernel, rfl, by decide +kernel, by decide +kernel⟩
abbrev s__law_refused : Stmt := top 48
theorem sc__law_refused : FnScope ["_law_ask", "_law_text", "error", "_law_others"] ["_law_ask", "_law_text"] (defScope s__law_refused) := ⟨rfl, rfl, rfl, by decide +kernel, rfl, by decide +kernel, by decide +kernel⟩
abbrev s__law_right : Stmt := top 49
theorem sc__law_right : FnScope ["_law_text", "_law_due", "_law_house"] ["_law_text"] (defScope s__law_right) := ⟨rfl, rfl, rfl, by decide +kernel, rfl, by decide +kernel, by decide +kernel⟩
abbrev s__law_few : Stmt := top 50
theorem sc__law_few : FnScope ["_law_some"] [] (defScope s__law_few) := ⟨rfl, rfl, rfl, by decide +kernel, rfl, by decide +kernel, by decide +kernel⟩
abbrev s_law : Stmt := top 51
theorem sc_law : FnScope ["_law_script", "_law_sizes_here", "_law_tap", "_law_moves", "_law_told", "_law_k", "_law_first", "_law_second", "_law_every", "_law_found", "_law_cell", "_law_others", "_law_text", "_law_at", "_law_sign", "_law_things"] ["_law_script"] (defScope s_law) := ⟨rfl, rfl, rfl, by decide +kernel, rfl, by decide +kernel, by decide +kernel⟩

end Jug
namespace Jug
open PySem L2
/-! ### what the walk asks of the module: the built-in names, the constants -/
structure Bt (mg : Str → Option Value) : Prop where
  isinstance : mg "isinstance" = none
  int : mg "int" = none
  bool : mg "bool" = none
  tuple : mg "tuple" = none
  list : mg "list" = none
  len : mg "len" = none
  zip : mg "zip" = none
  range : mg "range" = none
  min : mg "min" = none
  str : mg "str" = none
  jugs : ∃ t, mg "MOST_JUGS" = some (.int 4 t)
  size : ∃ t, mg "MOST_SIZE" = some (.int 60 t)
theorem bt_isinstance : bootBuiltins "isinstance" = some (.builtin "isinstance") := by decide +kernel
theorem bt_int : bootBuiltins "int" = some (.type "int") := by decide +kernel
theorem bt_bool : bootBuiltins "bool" = some (.type "bool") := by decide +kernel
theorem bt_tuple : bootBuiltins "tuple" = some (.type "tuple") := by decide +kernel
theorem bt_list : bootBuiltins "list" = some (.type "list") := by decide +kernel
theorem bt_min : bootBuiltins "min" = some (.builtin "min") := by decide +kernel
theorem bt_str : bootBuiltins "str" = some (.type "str") := by decide +kernel
section
variable {P : Program} {w : World} {K : PySem.W.Frag} {mg : Str → Option Value} {base : Heap}
theorem kit_ii : PySem.W.kitOne K (.type "int") (.type "int") = some true := by
  unfold PySem.W.kitOne
  rw [if_pos (by simp)]
theorem kit_ib : PySem.W.kitOne K (.type "int") (.type "bool") = some false := by
  unfold PySem.W.kitOne
  rw [if_neg (by decide)]
  with_unfolding_all rfl
theorem kit_ll : PySem.W.kitOne K (.type "list") (.type "list") = some true := by
  unfold PySem.W.kitOne
  rw [if_pos (by simp)]
theorem kit_bb : PySem.W.kitOne K (.type "bool") (.type "bool") = some true := by
  unfold PySem.W.kitOne
  rw [if_pos (by simp)]
def sp_is_number : Sp := fun vs H Q _ => ∃ i lo hi : Int, vs = [.int i, .int lo, .int hi] ∧ Q (.bl (decide (lo ≤ i) && decide (i ≤ hi))) H
theorem ok_is_number {f : Addr} {fd : FuncData} (F : Fun K "is_number" "is_number" s_is_number f fd) (B : Bt mg) : FnOk P w K mg base CX0 1 f fd ["value", "least", "most"] sp_is_number := by
  refine F.ok sc_is_number (fun vs H Q E h => ?_) (fun cdv A outer s H vs Q E hr h => ?_)
  · obtain ⟨i, lo, hi, rfl, _⟩ := h
    rfl
  · obtain ⟨i, lo, hi, rfl, k⟩ := h
    refine ⟨_, pss_one (ps_ret (pe_and (pe_callB call_isinst (by rfl) B.isinstance bt_isinstance (pa_cons (pv 0) (pa_cons (pe_bltn (v := .ty "int") (by rfl) B.int bt_int rfl) pa_nil)))
      (pe_and (pe_not (pe_callB call_isinst (by rfl) B.isinstance bt_isinstance (pa_cons (pv 0) (pa_cons (pe_bltn (v := .ty "bool") (by rfl) B.bool bt_bool rfl) pa_nil))))
      (pe_one (pe_chain op_le op_le (pv 1) (pv 0) (pv 2)))))), ?_⟩
    refine ⟨_, rfl, _, _, _, _, _, rfl, .ty "int", .int i, kit_ii, _, rfl, iteT ?_⟩
    refine ⟨_, rfl, _, _, _, _, _, rfl, .ty "bool", .int i, kit_ib, _, rfl, _, rfl, iteT ?_⟩
    refine ⟨_, rfl, _, rfl, _, _, rfl, rfl, _, rfl, ?_⟩
    by_cases h1 : lo ≤ i
    · rw [decide_eq_true h1]
      refine iteT ⟨_, rfl, _, _, rfl, rfl, ?_⟩
      rw [decide_eq_true h1, Bool.true_and] at k
      exact k
    · rw [decide_eq_false h1]
      refine iteF ?_
      rw [decide_eq_false h1, Bool.false_and] at k
      exact k
def sp_is_jug : Sp := fun vs H Q _ => ∃ i : Int, vs = [.int i] ∧ Q (.bl (decide (0 ≤ i) && decide (i ≤ 3))) H
theorem ok_is_jug {f : Addr} {fd : FuncData} (F : Fun K "is_jug" "is_jug" s_is_jug f fd) (B : Bt mg) (N : FnB P w K mg base 1 "is_number" ["value", "least", "most"] sp_is_number) : FnOk P w K mg base CX0 2 f fd ["value"] sp_is_jug := by
  obtain ⟨t4, e4⟩ := B.jugs
  refine F.ok sc_is_jug (fun vs H Q E h => ?_) (fun cdv A outer s H vs Q E hr h => ?_)
  · obtain ⟨i, rfl, _⟩ := h
    rfl
  · obtain ⟨i, rfl, k⟩ := h
    refine ⟨_, pss_one (ps_ret (pe_fn N hr (pa_cons (pv 0) (pa_cons pe_int (pa_cons (pe_op op_sub (pe_glob (v := .int 4) (by rfl) e4 ⟨_, rfl⟩) pe_int) pa_nil))))), ?_⟩
    exact ⟨_, rfl, _, _, rfl, rfl, i, 0, 3, rfl, k⟩
end
end Jug

namespace Jug
open PySem L2
/-! ### data -/
theorem mem_ints {l : List Int} {i : Nat} {x : V} (h : (l.map V.int)[i]? = some x) : ∃ z, l[i]? = some z ∧ x = .int z := by
  rw [List.getElem?_map] at h
  cases e : l[i]? with
  | none => rw [e] at h; cases h
  | some z => rw [e] at h; exact ⟨z, rfl, (Option.some.inj h).symm⟩
theorem get_of {l : List Int} {i : Nat} (h : i < l.length) : l[i]? = some (J.at0 l i) := by
  unfold J.at0
  rw [List.getD_eq_getElem?_getD, List.getElem?_eq_getElem h]; rfl
theorem getV_of {l : List Int} {i : Nat} (h : i < l.length) : (l.map V.int)[i]? = some (.int (J.at0 l i)) := by
  rw [List.getElem?_map, get_of h]; rfl
/-- a house: sizes and tap -/
def hF (t : Addr) (tap : Bool) : List (Str × V) := putF "tap" (.bl tap) (putF "jug_sizes" (.ref t) [])
theorem n_tap_js : ¬ (("tap" : Str) = "jug_sizes") := by decide +kernel
theorem hF_js (t : Addr) (tap : Bool) : (hF t tap).lookup ("jug_sizes" : Str) = some (.ref t) := by
  unfold hF
  rw [lookup_putF, if_neg (fun e => n_tap_js e.symm), lookup_putF, if_pos rfl]
theorem hF_tap (t : Addr) (tap : Bool) : (hF t tap).lookup ("tap" : Str) = some (.bl tap) := by
  unfold hF
  rw [lookup_putF, if_pos rfl]
theorem hF_no (t : Addr) (tap : Bool) {m : Str} (h1 : ¬ m = "tap") (h2 : ¬ m = "jug_sizes") : (hF t tap).lookup m = none := by
  unfold hF
  rw [lookup_putF, if_neg h1, lookup_putF, if_neg h2]
  rfl
def House (CH : Addr) (H : Hp) (p : Addr) (sz : List Int) (tap : Bool) : Prop := ∃ dx t, H p = some (.ins CH dx (hF t tap)) ∧ H t = some (.tup (sz.map V.int))
theorem House.mono {CH : Addr} {H H' : Hp} {p : Addr} {sz : List Int} {tap : Bool} (h : House CH H p sz tap) (s : Same H H') : House CH H' p sz tap := by
  obtain ⟨dx, t, h1, h2⟩ := h
  exact ⟨dx, t, s _ _ h1, s _ _ h2⟩
/-- what the class House must have -/
structure CHs (K : PySem.W.Frag) (C : Addr) : Prop where
  cl : Cls K C
  js : NoAttr K C "jug_sizes"
  tap : NoAttr K C "tap"
section
variable {P : Program} {w : World} {K : PySem.W.Frag} {mg : Str → Option Value} {base : Heap} {CH : Addr}
def sp_sizes (CH : Addr) : Sp := fun vs H Q _ => ∃ p sz tap, vs = [.ref p] ∧ House CH H p sz tap ∧ ∀ l, H l = none → Q (.ref l) (upd H l (.lst (sz.map V.int)))
theorem ok_sizes {f : Addr} {fd : FuncData} (F : Fun K "sizes" "House.sizes" s_House_sizes f fd) (B : Bt mg) (C : CHs K CH) : FnOk P w K mg base CX0 1 f fd ["self"] (sp_sizes CH) := by
  refine F.ok sc_House_sizes (fun vs H Q E h => ?_) (fun cdv A outer s H vs Q E hr h => ?_)
  · obtain ⟨p, sz, tap, rfl, _⟩ := h
    rfl
  · obtain ⟨p, sz, tap, rfl, ⟨dx, t, hp, ht⟩, k⟩ := h
    refine ⟨_, pss_one (ps_ret (pe_callTy call_list_of (by rfl) B.list bt_list (pa_cons (pe_fld (pv 0) rfl) pa_nil))), ?_⟩
    exact ⟨_, rfl, p, CH, dx, _, _, rfl, hp, C.cl, C.js, hF_js _ _, t, _, rfl, .inr (SqT.of ht), fun l hl => k l hl⟩
end
/-! ### moves -/
structure Cz where
  P : Addr
  F : Addr
  E : Addr
def pF (a b : Nat) : List (Str × V) := putF "other" (.int b) (putF "one" (.int a) [])
def jF (a : Nat) : List (Str × V) := putF "jug" (.int a) []
theorem n_one_other : ¬ (("one" : Str) = "other") := by decide +kernel
theorem pF_one (a b : Nat) : (pF a b).lookup ("one" : Str) = some (.int a) := by
  unfold pF
  rw [lookup_putF, if_neg n_one_other, lookup_putF, if_pos rfl]
theorem pF_other (a b : Nat) : (pF a b).lookup ("other" : Str) = some (.int b) := by
  unfold pF
  rw [lookup_putF, if_pos rfl]
theorem jF_jug (a : Nat) : (jF a).lookup ("jug" : Str) = some (.int a) := by
  unfold jF
  rw [lookup_putF, if_pos rfl]
def Cz.cl (Z : Cz) : J.Mv → Addr
  | .pour _ _ => Z.P
  | .fill _ => Z.F
  | .emp _ => Z.E
def fsOf : J.Mv → List (Str × V)
  | .pour a b => pF a b
  | .fill a => jF a
  | .emp a => jF a
/-- a move stands at p -/
def MvAt (Z : Cz) (H : Hp) (p : Addr) (m : J.Mv) : Prop := ∃ dx, H p = some (.ins (Z.cl m) dx (fsOf m))
theorem MvAt.mono {Z : Cz} {H H' : Hp} {p : Addr} {m : J.Mv} (h : MvAt Z H p m) (s : Same H H') : MvAt Z H' p m := let ⟨dx, e⟩ := h; ⟨dx, s _ _ e⟩
structure CPo (K : PySem.W.Frag) (C : Addr) : Prop where
  cl : Cls K C
  one : NoAttr K C "one"
  other : NoAttr K C "other"
structure CJu (K : PySem.W.Frag) (C : Addr) : Prop where
  cl : Cls K C
  jug : NoAttr K C "jug"
theorem ixN_of {n j : Nat} (h : j < n) : ixN n (j : Int) = some j := by
  unfold ixN
  rw [if_pos (by omega), if_pos (by omega)]; simp
section
variable {P : Program} {w : World} {K : PySem.W.Frag} {mg : Str → Option Value} {base : Heap} {CH : Addr} {Z : Cz}
def sp_check_jug : Sp := fun vs H Q _ => ∃ (j : Nat), vs = [.int j] ∧ j ≤ 3 ∧ Q .non H
theorem ok_check_jug {f : Addr} {fd : FuncData} (F : Fun K "check_jug" "check_jug" s_check_jug f fd) (N : FnB P w K mg base 2 "is_jug" ["value"] sp_is_jug) : FnOk P w K mg base CX0 3 f fd ["jug"] sp_check_jug := by
  refine F.ok sc_check_jug (fun vs H Q E h => ?_) (fun cdv A outer s H vs Q E hr h => ?_)
  · obtain ⟨j, rfl, _⟩ := h
    rfl
  · obtain ⟨j, rfl, hj, k⟩ := h
    refine ⟨_, pss_one (ps_if (pt_not (pt_val (pe_fn N hr (pa_cons (pv 0) pa_nil)))) pss_never pss_nil), ?_⟩
    refine ⟨_, rfl, (j : Int), rfl, _, rfl, ?_⟩
    rw [decide_eq_true (by omega : (0 : Int) ≤ j), decide_eq_true (by omega : (j : Int) ≤ 3)]
    exact iteF k
def sp_Pour_init (Z : Cz) : Sp := fun vs H Q _ => ∃ (p dx : Addr) (a b : Nat), vs = [.ref p, .int a, .int b] ∧ H p = some (.ins Z.P dx []) ∧ a ≤ 3 ∧ b ≤ 3 ∧ a ≠ b ∧
  ∀ H', (∀ c o, H c = some o → c ≠ p → H' c = some o) → H' p = some (.ins Z.P dx (pF a b)) → Q .non H'
theorem ok_Pour_init {f : Addr} {fd : FuncData} (F : Fun K "__init__" "Pour.__init__" s_Pour_init f fd) (C : CPo K Z.P) (N : FnB P w K mg base 3 "check_jug" ["jug"] sp_check_jug) :
    FnOk P w K mg base CX0 4 f fd ["self", "one", "other"] (sp_Pour_init Z) := by
  refine F.ok sc_Pour_init (fun vs H Q E h => ?_) (fun cdv A outer s H vs Q E hr h => ?_)
  · obtain ⟨p, dx, a, b, rfl, _⟩ := h
    rfl
  · obtain ⟨p, dx, a, b, rfl, hp, ha, hb, hab, k⟩ := h
    refine ⟨_, pss_cons (ps_expr (pe_fn N hr (pa_cons (pv 1) pa_nil))) (pss_cons (ps_expr (pe_fn N hr (pa_cons (pv 2) pa_nil)))
      (pss_cons (ps_if (pt_cmpR op_eq (pv 1) (pv 2) (nomark _)) pss_never pss_nil)
      (pss_cons (ps_fld (pv 0) (pv 1) rfl) (pss_one (ps_fld (pv 0) (pv 2) rfl))))), ?_⟩
    refine ⟨_, rfl, a, rfl, ha, ?_⟩
    refine ⟨_, rfl, b, rfl, hb, ?_⟩
    refine ⟨_, rfl, _, rfl, rfl, _, rfl, ?_⟩
    rw [decide_eq_false (by simp; omega)]
    refine iteF ?_
    refine ⟨_, rfl, _, rfl, p, Z.P, dx, [], rfl, hp, C.cl, C.one, (by show 0 < 1000; decide), ?_⟩
    refine ⟨_, rfl, _, rfl, p, Z.P, dx, _, rfl, upd_same, C.cl, C.other, (by show 1 < 1000; decide), ?_⟩
    exact k _ (fun c o e hc => by rw [upd_ne hc, upd_ne hc]; exact e) upd_same
def sp_jug_init (C : Addr) : Sp := fun vs H Q _ => ∃ (p dx : Addr) (a : Nat), vs = [.ref p, .int a] ∧ H p = some (.ins C dx []) ∧ a ≤ 3 ∧
  ∀ H', (∀ c o, H c = some o → c ≠ p → H' c = some o) → H' p = some (.ins C dx (jF a)) → Q .non H'
theorem ok_Fill_init {f : Addr} {fd : FuncData} (F : Fun K "__init__" "Fill.__init__" s_Fill_init f fd) (C : CJu K Z.F) (N : FnB P w K mg base 3 "check_jug" ["jug"] sp_check_jug) :
    FnOk P w K mg base CX0 4 f fd ["self", "jug"] (sp_jug_init Z.F) := by
  refine F.ok sc_Fill_init (fun vs H Q E h => ?_) (fun cdv A outer s H vs Q E hr h => ?_)
  · obtain ⟨p, dx, a, rfl, _⟩ := h
    rfl
  · obtain ⟨p, dx, a, rfl, hp, ha, k⟩ := h
    refine ⟨_, pss_cons (ps_expr (pe_fn N hr (pa_cons (pv 1) pa_nil))) (pss_one (ps_fld (pv 0) (pv 1) rfl)), ?_⟩
    refine ⟨_, rfl, a, rfl, ha, ?_⟩
    refine ⟨_, rfl, _, rfl, p, Z.F, dx, [], rfl, hp, C.cl, C.jug, (by show 0 < 1000; decide), ?_⟩
    exact k _ (fun c o e hc => by rw [upd_ne hc]; exact e) upd_same
theorem ok_Empty_init {f : Addr} {fd : FuncData} (F : Fun K "__init__" "Empty.__init__" s_Empty_init f fd) (C : CJu K Z.E) (N : FnB P w K mg base 3 "check_jug" ["jug"] sp_check_jug) :
    FnOk P w K mg base CX0 4 f fd ["self", "jug"] (sp_jug_init Z.E) := by
  refine F.ok sc_Empty_init (fun vs H Q E h => ?_) (fun cdv A outer s H vs Q E hr h => ?_)
  · obtain ⟨p, dx, a, rfl, _⟩ := h
    rfl
  · obtain ⟨p, dx, a, rfl, hp, ha, k⟩ := h
    refine ⟨_, pss_cons (ps_expr (pe_fn N hr (pa_cons (pv 1) pa_nil))) (pss_one (ps_fld (pv 0) (pv 1) rfl)), ?_⟩
    refine ⟨_, rfl, a, rfl, ha, ?_⟩
    refine ⟨_, rfl, _, rfl, p, Z.E, dx, [], rfl, hp, C.cl, C.jug, (by show 0 < 1000; decide), ?_⟩
    exact k _ (fun c o e hc => by rw [upd_ne hc]; exact e) upd_same
end
end Jug

namespace Jug
open PySem L2
/-! ### what stays: all objects but lists and dicts -/
def fx : HO → Bool
  | .lst _ => false
  | .dK _ => false
  | .dT _ => false
  | _ => true
def Fix (H H' : Hp) : Prop := ∀ c o, H c = some o → fx o = true → H' c = some o
theorem Fix.of {H H' : Hp} (s : Same H H') : Fix H H' := fun c o e _ => s c o e
theorem Fix.trans {H H1 H2 : Hp} (a : Fix H H1) (b : Fix H1 H2) : Fix H H2 := fun c o e f => b c o (a c o e f) f
theorem Fix.put {H : Hp} {l : Addr} {o o' : HO} (h : H l = some o) (f : fx o = false) : Fix H (upd H l o') := fun c u e g => by
  rw [upd_ne]
  · exact e
  · rintro rfl
    rw [h] at e
    cases e
    rw [f] at g
    cases g
theorem MvAt.fix {Z : Cz} {H H' : Hp} {p : Addr} {m : J.Mv} (h : MvAt Z H p m) (s : Fix H H') : MvAt Z H' p m := let ⟨dx, e⟩ := h; ⟨dx, s _ _ e rfl⟩
/-- a move, a tuple of ints, as values -/
def isM (Z : Cz) (H : Hp) : V → J.Mv → Prop := fun v m => ∃ p, v = .ref p ∧ MvAt Z H p m
def isTI (H : Hp) : V → List Int → Prop := fun v st => ∃ a, v = .ref a ∧ H a = some (.tup (st.map V.int))
theorem isM.fix {Z : Cz} {H H' : Hp} (s : Fix H H') : ∀ v m, isM Z H v m → isM Z H' v m := fun _ _ ⟨p, e, h⟩ => ⟨p, e, h.fix s⟩
theorem isTI.fix {H H' : Hp} (s : Fix H H') : ∀ v m, isTI H v m → isTI H' v m := fun _ _ ⟨p, e, h⟩ => ⟨p, e, s _ _ h rfl⟩
theorem pm_fix {Z : Cz} {H H' : Hp} {vs : List V} {ms : List J.Mv} (h : Paired (isM Z H) vs ms) (s : Fix H H') : Paired (isM Z H') vs ms := Paired.mapP h (isM.fix s)
theorem pt_fix {H H' : Hp} {vs : List V} {ms : List (List Int)} (h : Paired (isTI H) vs ms) (s : Fix H H') : Paired (isTI H') vs ms := Paired.mapP h (isTI.fix s)
structure CTy (K : PySem.W.Frag) (C : Addr) : Prop where
  ha : PySem.W.findIn K (.ref C) "__class__" = some (some (.builtin "object.__class__"))
  hn : PySem.W.specialIn K (.builtin "object.__class__") "__get__" = some (some (.builtin "getset_descriptor.__get__"))
  htk : PySem.W.takesIn K (.builtin "object.__class__") = some true
  hm : PySem.W.mroIn K C (.type "object") = some true
structure MvC (K : PySem.W.Frag) (mg : Str → Option Value) (Z : Cz) : Prop where
  po : CPo K Z.P
  fi : CJu K Z.F
  em : CJu K Z.E
  tP : CTy K Z.P
  tF : CTy K Z.F
  tE : CTy K Z.E
  gP : mg "Pour" = some (.ref Z.P)
  gF : mg "Fill" = some (.ref Z.F)
  gE : mg "Empty" = some (.ref Z.E)
  kFP : PySem.W.kitOne K (.ref Z.F) (.ref Z.P) = some false
  kEP : PySem.W.kitOne K (.ref Z.E) (.ref Z.P) = some false
  kEF : PySem.W.kitOne K (.ref Z.E) (.ref Z.F) = some false
theorem kit_self {K : PySem.W.Frag} (C : Addr) : PySem.W.kitOne K (.ref C) (.ref C) = some true := by
  unfold PySem.W.kitOne
  rw [if_pos (by simp)]
theorem MvC.ty {K : PySem.W.Frag} {mg : Str → Option Value} {Z : Cz} (M : MvC K mg Z) {H : Hp} {p : Addr} {m : J.Mv} (h : MvAt Z H p m) : TyOf K H (.ref p) (.ref (Z.cl m)) := by
  obtain ⟨dx, h⟩ := h
  cases m with
  | pour a b => exact .ins h M.po.cl M.tP.ha M.tP.hn M.tP.htk M.tP.hm
  | fill a => exact .ins h M.fi.cl M.tF.ha M.tF.hn M.tF.htk M.tF.hm
  | emp a => exact .ins h M.em.cl M.tE.ha M.tE.hn M.tE.htk M.tE.hm
theorem MvC.any {K : PySem.W.Frag} {mg : Str → Option Value} {Z : Cz} (M : MvC K mg Z) (m : J.Mv) : PySem.W.kitAny K (.ref (Z.cl m)) [.ref Z.P, .ref Z.F, .ref Z.E] = some true := by
  cases m with
  | pour a b => show (match PySem.W.kitOne K (.ref Z.P) (.ref Z.P) with | some true => some true | some false => _ | none => none) = _; rw [kit_self]
  | fill a =>
    show (match PySem.W.kitOne K (.ref Z.F) (.ref Z.P) with | some true => some true | some false => (match PySem.W.kitOne K (.ref Z.F) (.ref Z.F) with | some true => some true | some false => _ | none => none) | none => none) = _
    rw [M.kFP]; dsimp only; rw [kit_self]
  | emp a =>
    show (match PySem.W.kitOne K (.ref Z.E) (.ref Z.P) with | some true => some true | some false => (match PySem.W.kitOne K (.ref Z.E) (.ref Z.F) with | some true => some true | some false => (match PySem.W.kitOne K (.ref Z.E) (.ref Z.E) with | some true => some true | some false => _ | none => none) | none => none) | none => none) = _
    rw [M.kEP]; dsimp only; rw [M.kEF]; dsimp only; rw [kit_self]
section
variable {P : Program} {w : World} {K : PySem.W.Frag} {mg : Str → Option Value} {base : Heap} {CH : Addr} {Z : Cz}
def sp_moves_in (Z : Cz) : Sp := fun vs H Q _ => ∃ l xs ms, vs = [.ref l] ∧ H l = some (.lst xs) ∧ Paired (isM Z H) xs ms ∧ ∀ r H', Same H H' → H r = none → H' r = some (.lst xs) → Q (.ref r) H'
theorem ok_moves_in {f : Addr} {fd : FuncData} (F : Fun K "moves_in" "moves_in" s_moves_in f fd) (B : Bt mg) (M : MvC K mg Z) : FnOk P w K mg base CX0 1 f fd ["moves"] (sp_moves_in Z) := by
  refine F.ok sc_moves_in (fun vs H Q E h => ?_) (fun cdv A outer s H vs Q E hr h => ?_)
  · obtain ⟨l, xs, ms, rfl, _⟩ := h
    rfl
  · obtain ⟨l, xs, ms, rfl, hl, hp, k⟩ := h
    refine ⟨_, pss_cons (ps_if (pt_not (pt_val (pe_callB call_isinst (by rfl) B.isinstance bt_isinstance (pa_cons (pv 0) (pa_cons (pe_bltn (v := .ty "list") (by rfl) B.list bt_list rfl) pa_nil))))) pss_never pss_nil)
      (pss_cons (ps_set (i := 1) sc_moves_in.nd rfl (Or.inl rfl) (pe_callTy call_list_of (by rfl) B.list bt_list (pa_cons (pv 0) pa_nil)))
      (pss_cons (ps_for PassesOwn.never rfl (pi_list (pv 1)) (pg_name (i := 2) sc_moves_in.nd rfl (Or.inl rfl))
        (pss_one (ps_if (pt_not (pt_val (pe_callB call_isinstT (by rfl) B.isinstance bt_isinstance (pa_cons (pv 2) (pa_cons (pe_tup (pa_cons (pe_glob (v := .ref Z.P) (by rfl) M.gP rfl) (pa_cons (pe_glob (v := .ref Z.F) (by rfl) M.gF rfl) (pa_cons (pe_glob (v := .ref Z.E) (by rfl) M.gE rfl) pa_nil)))) pa_nil))))) pss_never pss_nil)))
      (pss_one (ps_ret (pv 1))))), ?_⟩
    refine ⟨_, rfl, _, _, _, _, _, rfl, .ty "list", .lst hl, kit_ll, _, rfl, iteF ?_⟩
    refine ⟨_, rfl, l, _, rfl, .inl (SqL.of hl), fun r nr => ?_⟩
    have s1 : Same H (upd H r (.lst xs)) := Same.new nr
    refine ⟨_, rfl, r, rfl, ⟨_, SqL.of upd_same⟩, for_list (K := K) (a := r) (xs := xs) (fun i σ H' => ∃ v, σ = [some (.ref l), some (.ref r), v] ∧ Same (upd H r (.lst xs)) H')
      ⟨none, rfl, Same.refl _⟩ (fun i σ H' _ ⟨_, _, s2⟩ => SqL.of (s2 _ _ upd_same)) ?_ ?_⟩
    · rintro i x σ H' hx ⟨v, rfl, s2⟩
      obtain ⟨m, hm, p, rfl, hmv⟩ := L2.Paired.get hp hx
      have hmv' := (hmv.mono s1).mono s2
      refine ⟨_, rfl, (by show 3 ≤ sizeLine; decide), fun tp nt => ?_⟩
      refine ⟨_, tp, _, _, _, _, rfl, upd_same, .cons (.ref _) (.cons (.ref _) (.cons (.ref _) .nil)), M.ty (hmv'.mono (Same.new nt)), M.any m, _, rfl, iteF ?_⟩
      exact ⟨_, rfl, s2.lay nt⟩
    · rintro σ H' ⟨v, rfl, s2⟩
      exact ⟨_, rfl, k r H' (s1.trans s2) nr (s2 _ _ upd_same)⟩
end
/-! ### houses -/
structure Hz (sz : List Int) : Prop where
  l1 : 1 ≤ sz.length
  l4 : sz.length ≤ 4
  bd : ∀ s ∈ sz, 1 ≤ s ∧ s ≤ 60
  pr : J.prod1 sz ≤ 2000
section
variable {P : Program} {w : World} {K : PySem.W.Frag} {mg : Str → Option Value} {base : Heap} {CH : Addr} {Z : Cz}
def sp_count_states : Sp := fun vs H Q _ => ∃ l sz, vs = [.ref l] ∧ H l = some (.lst (sz.map V.int)) ∧ (∀ s ∈ sz, 1 ≤ s ∧ s ≤ 60) ∧ Q (.int (J.prod1 sz)) H
theorem ok_count_states {f : Addr} {fd : FuncData} (F : Fun K "count_states" "count_states" s_count_states f fd) : FnOk P w K mg base CX0 1 f fd ["sizes"] sp_count_states := by
  refine F.ok sc_count_states (fun vs H Q E h => ?_) (fun cdv A outer s H vs Q E hr h => ?_)
  · obtain ⟨l, sz, rfl, _⟩ := h
    rfl
  · obtain ⟨l, sz, rfl, hl, hb, k⟩ := h
    refine ⟨_, pss_cons (ps_set (i := 1) sc_count_states.nd rfl (Or.inl rfl) pe_int)
      (pss_cons (ps_for PassesOwn.never rfl (pi_list (pv 0)) (pg_name (i := 2) sc_count_states.nd rfl (Or.inl rfl))
        (pss_one (ps_set (i := 1) sc_count_states.nd rfl (Or.inl rfl) (pe_op op_mul (pv 1) (pe_op op_add (pv 2) pe_int)))))
      (pss_one (ps_ret (pv 1)))), ?_⟩
    refine ⟨_, rfl, l, rfl, ⟨_, SqL.of hl⟩, for_list (K := K) (a := l) (xs := sz.map V.int) (fun i σ H' => ∃ v, σ = [some (.ref l), some (.int ((sz.take i).foldl (fun m s => m * (s + 1)) 1)), v] ∧ H' = H)
      ⟨none, rfl, rfl⟩ (fun i σ H' _ ⟨_, _, e⟩ => by subst e; exact SqL.of hl) ?_ ?_⟩
    · rintro i x σ H' hx ⟨v, rfl, rfl⟩
      obtain ⟨z, ez, rfl⟩ := mem_ints hx
      have hz := hb z (List.mem_of_getElem? ez)
      refine ⟨_, rfl, _, rfl, _, _, rfl, rfl, _, _, rfl, rfl, .inr ⟨by omega, by omega⟩, ?_⟩
      refine ⟨some (.int z), ?_, rfl⟩
      rw [List.take_add_one, ez, List.foldl_append]
      rfl
    · rintro σ H' ⟨v, rfl, rfl⟩
      refine ⟨_, rfl, ?_⟩
      rw [List.length_map, List.take_length]
      exact k
def sp_sizes_in : Sp := fun vs H Q _ => ∃ l sz, vs = [.ref l] ∧ H l = some (.lst (sz.map V.int)) ∧ Hz sz ∧ ∀ r H', Same H H' → H' r = some (.lst (sz.map V.int)) → Q (.ref r) H'
theorem ok_sizes_in {f : Addr} {fd : FuncData} (F : Fun K "sizes_in" "sizes_in" s_sizes_in f fd) (B : Bt mg) (hst : ∃ t, mg "MOST_STATES" = some (.int 2000 t)) (N : FnB P w K mg base 1 "is_number" ["value", "least", "most"] sp_is_number)
    (C : FnB P w K mg base 1 "count_states" ["sizes"] sp_count_states) : FnOk P w K mg base CX0 2 f fd ["sizes"] sp_sizes_in := by
  obtain ⟨t4, e4⟩ := B.jugs
  obtain ⟨t60, e60⟩ := B.size
  obtain ⟨t2, e2⟩ := hst
  refine F.ok sc_sizes_in (fun vs H Q E h => ?_) (fun cdv A outer s H vs Q E hr h => ?_)
  · obtain ⟨l, sz, rfl, _⟩ := h
    rfl
  · obtain ⟨l, sz, rfl, hl, hz, k⟩ := h
    refine ⟨_, pss_cons (ps_if (pt_not (pt_val (pe_callB call_isinst (by rfl) B.isinstance bt_isinstance (pa_cons (pv 0) (pa_cons (pe_bltn (v := .ty "list") (by rfl) B.list bt_list rfl) pa_nil))))) pss_never pss_nil)
      (pss_cons (ps_set (i := 1) sc_sizes_in.nd rfl (Or.inl rfl) (pe_callTy call_list_of (by rfl) B.list bt_list (pa_cons (pv 0) pa_nil)))
      (pss_cons (ps_if (pt_not (pt_chain op_le op_le pe_int (pe_callB call_len_seq (by rfl) B.len PySem.boot_len (pa_cons (pv 1) pa_nil)) (pe_glob (v := .int 4) (by rfl) e4 ⟨_, rfl⟩))) pss_never pss_nil)
      (pss_cons (ps_for PassesOwn.never rfl (pi_list (pv 1)) (pg_name (i := 2) sc_sizes_in.nd rfl (Or.inl rfl))
        (pss_one (ps_if (pt_not (pt_val (pe_fn N hr (pa_cons (pv 2) (pa_cons pe_int (pa_cons (pe_glob (v := .int 60) (by rfl) e60 ⟨_, rfl⟩) pa_nil)))))) pss_never pss_nil)))
      (pss_cons (ps_if (pt_cmpR op_gt (pe_fn C hr (pa_cons (pv 1) pa_nil)) (pe_glob (v := .int 2000) (by rfl) e2 ⟨_, rfl⟩) (nomark _)) pss_never pss_nil)
      (pss_one (ps_ret (pv 1))))))), ?_⟩
    refine ⟨_, rfl, _, _, _, _, _, rfl, .ty "list", .lst hl, kit_ll, _, rfl, iteF ?_⟩
    refine ⟨_, rfl, l, _, rfl, .inl (SqL.of hl), fun r nr => ?_⟩
    have s1 : Same H (upd H r (.lst (sz.map V.int))) := Same.new nr
    refine ⟨_, rfl, r, _, rfl, .inl (SqL.of upd_same), _, _, rfl, rfl, _, rfl, ?_⟩
    have h1 := hz.l1
    have h4 := hz.l4
    rw [decide_eq_true (by simp; omega)]
    refine iteT ⟨_, _, rfl, rfl, _, rfl, ?_⟩
    rw [decide_eq_true (by simp; omega)]
    refine iteF ?_
    refine ⟨_, rfl, r, rfl, ⟨_, SqL.of upd_same⟩, for_list (K := K) (a := r) (xs := sz.map V.int) (fun i σ H' => ∃ v, σ = [some (.ref l), some (.ref r), v] ∧ H' = upd H r (.lst (sz.map V.int)))
      ⟨none, rfl, rfl⟩ (fun i σ H' _ ⟨_, _, e⟩ => by subst e; exact SqL.of upd_same) ?_ ?_⟩
    · rintro i x σ H' hx ⟨v, rfl, rfl⟩
      obtain ⟨z, ez, rfl⟩ := mem_ints hx
      have hb := hz.bd z (List.mem_of_getElem? ez)
      refine ⟨_, rfl, z, 1, 60, rfl, _, rfl, ?_⟩
      rw [decide_eq_true hb.1, decide_eq_true hb.2]
      exact iteF ⟨_, rfl, rfl⟩
    · rintro σ H' ⟨v, rfl, rfl⟩
      refine ⟨_, rfl, r, sz, rfl, upd_same, hz.bd, _, _, rfl, rfl, _, rfl, ?_⟩
      have := hz.pr
      rw [decide_eq_false (by omega)]
      exact iteF ⟨_, rfl, k r _ s1 upd_same⟩
def sp_House_init (CH : Addr) : Sp := fun vs H Q _ => ∃ (p dx l : Addr) (sz : List Int) (tap : Bool), vs = [.ref p, .ref l, .bl tap] ∧ H p = some (.ins CH dx []) ∧ H l = some (.lst (sz.map V.int)) ∧ Hz sz ∧
  ∀ H', (∀ c o, H c = some o → c ≠ p → H' c = some o) → House CH H' p sz tap → Q .non H'
theorem ok_House_init {f : Addr} {fd : FuncData} (F : Fun K "__init__" "House.__init__" s_House_init f fd) (B : Bt mg) (C : CHs K CH) (N : FnB P w K mg base 2 "sizes_in" ["sizes"] sp_sizes_in) :
    FnOk P w K mg base CX0 3 f fd ["self", "sizes", "tap"] (sp_House_init CH) := by
  refine F.ok sc_House_init (fun vs H Q E h => ?_) (fun cdv A outer s H vs Q E hr h => ?_)
  · obtain ⟨p, dx, l, sz, tap, rfl, _⟩ := h
    rfl
  · obtain ⟨p, dx, l, sz, tap, rfl, hp, hl, hz, k⟩ := h
    refine ⟨_, pss_cons (ps_fld (pv 0) (pe_callTy call_tuple_of (by rfl) B.tuple bt_tuple (pa_cons (pe_fn N hr (pa_cons (pv 1) pa_nil)) pa_nil)) rfl)
      (pss_cons (ps_if (pt_not (pt_val (pe_callB call_isinst (by rfl) B.isinstance bt_isinstance (pa_cons (pv 2) (pa_cons (pe_bltn (v := .ty "bool") (by rfl) B.bool bt_bool rfl) pa_nil))))) pss_never pss_nil)
      (pss_one (ps_fld (pv 0) (pv 2) rfl))), ?_⟩
    refine ⟨_, rfl, l, sz, rfl, hl, hz, fun r H1 s1 hr1 => ?_⟩
    refine ⟨r, _, rfl, .inl ⟨SqL.of hr1, fun t nt => ?_⟩⟩
    have s2 : Same H (upd H1 t (.tup (sz.map V.int))) := s1.lay nt
    have tp : t ≠ p := fun e => by subst e; rw [s1 _ _ hp] at nt; cases nt
    refine ⟨_, rfl, p, CH, dx, [], rfl, s2 _ _ hp, C.cl, C.js, (by show 0 < 1000; decide), ?_⟩
    refine ⟨_, rfl, _, _, _, _, _, rfl, .ty "bool", .bl tap, kit_bb, _, rfl, iteF ?_⟩
    refine ⟨_, rfl, _, rfl, p, CH, dx, _, rfl, upd_same, C.cl, C.tap, (by show 1 < 1000; decide), ?_⟩
    refine k _ (fun c o e hc => by rw [upd_ne hc, upd_ne hc]; exact s2 _ _ e) ⟨dx, t, upd_same, ?_⟩
    rw [upd_ne tp, upd_ne tp, upd_same]
end
/-! ### all moves, all states -/
def row (n a : Nat) : List J.Mv := ((List.range n).filter fun b => b != a).map fun b => J.Mv.pour a b
def rowTo (a j : Nat) : List J.Mv := ((List.range j).filter fun b => b != a).map fun b => J.Mv.pour a b
theorem rowTo_len (a j : Nat) : (rowTo a j).length ≤ j := by
  unfold rowTo
  rw [List.length_map]
  exact Nat.le_trans (List.length_filter_le _ _) (by simp)
theorem rowTo_eq (a j : Nat) : rowTo a (j + 1) = rowTo a j ++ (if j = a then [] else [J.Mv.pour a j]) := by
  unfold rowTo
  rw [List.range_succ, List.filter_append, List.map_append]
  congr 1
  by_cases h : j = a
  · simp [h]
  · simp [h]
theorem rows_len (n : Nat) : ∀ i, ((List.range i).flatMap (row n)).length ≤ i * n
  | 0 => by simp
  | i + 1 => by
    rw [List.range_succ, List.flatMap_append, List.length_append]
    have := rows_len n i
    have h2 := rowTo_len i n
    simp only [List.flatMap_cons, List.flatMap_nil, List.append_nil]
    have h3 : (row n i).length = (rowTo i n).length := rfl
    rw [Nat.succ_mul]
    omega
theorem Paired.snocP {α β : Type} {F : α → β → Prop} {a : α} {b : β} {l₁ : List α} {l₂ : List β} (h : Paired F l₁ l₂) (h' : F a b) : Paired F (l₁ ++ [a]) (l₂ ++ [b]) := PySem.Paired.snoc h h'
theorem Paired.appP {α β : Type} {F : α → β → Prop} : ∀ {l₁ m₁ : List α} {l₂ m₂ : List β}, Paired F l₁ l₂ → Paired F m₁ m₂ → Paired F (l₁ ++ m₁) (l₂ ++ m₂)
  | _, _, _, _, .nil, h => h
  | _, _, _, _, .cons r t, h => .cons r (Paired.appP t h)
section
variable {P : Program} {w : World} {K : PySem.W.Frag} {mg : Str → Option Value} {base : Heap} {CH : Addr} {Z : Cz}
def sp_pours_among (Z : Cz) : Sp := fun vs H Q _ => ∃ n : Nat, vs = [.int n] ∧ n ≤ 4 ∧ ∀ r H' xs, Same H H' → H r = none → H' r = some (.lst xs) → Paired (isM Z H') xs (J.pours n) → Q (.ref r) H'
theorem ok_pours_among {f : Addr} {fd : FuncData} (F : Fun K "pours_among" "pours_among" s_pours_among f fd) (B : Bt mg) (M : MkB P w K mg base 4 "Pour" Z.P ["self", "one", "other"] (sp_Pour_init Z)) :
    FnOk P w K mg base CX0 6 f fd ["many"] (sp_pours_among Z) := by
  refine F.ok sc_pours_among (fun vs H Q E h => ?_) (fun cdv A outer s H vs Q E hr h => ?_)
  · obtain ⟨n, rfl, _⟩ := h
    rfl
  · obtain ⟨n, rfl, hn, k⟩ := h
    refine ⟨_, pss_cons (ps_set (i := 1) sc_pours_among.nd rfl (Or.inl rfl) (pe_lst pa_nil))
      (pss_cons (ps_for PassesOwn.never rfl (pi_range1 (by rfl) B.range (pa_cons (pv 0) pa_nil)) (pg_name (i := 2) sc_pours_among.nd rfl (Or.inl rfl))
        (pss_one (ps_for PassesOwn.never rfl (pi_range1 (by rfl) B.range (pa_cons (pv 0) pa_nil)) (pg_name (i := 3) sc_pours_among.nd rfl (Or.inl rfl))
          (pss_one (ps_if (pt_cmpR op_ne (pv 2) (pv 3) (nomark _)) (pss_one (ps_expr (pe_append (pv 1) (pe_mk M hr (pa_cons (pv 2) (pa_cons (pv 3) pa_nil)))))) pss_nil)))))
      (pss_one (ps_ret (pv 1)))), ?_⟩
    refine ⟨(by show 0 ≤ sizeLine; decide), fun r nr => ?_⟩
    have s1 : Same H (upd H r (.lst [])) := Same.new nr
    refine ⟨_, rfl, (n : Int), rfl, by omega, by omega, for_rangeN (n := n) (fun i σ H' => ∃ xs v2 v3, σ = [some (.int n), some (.ref r), v2, v3] ∧ Same H H' ∧ H' r = some (.lst xs) ∧ Paired (isM Z H') xs ((List.range i).flatMap (row n)))
      ⟨[], none, none, rfl, s1, upd_same, .nil⟩ ?_ ?_⟩
    · rintro i σ H1 hi ⟨xs, v2, v3, rfl, s2, e2, p2⟩
      refine ⟨_, rfl, (n : Int), rfl, by omega, by omega, for_rangeN (n := n) (fun j σ H' => ∃ xs v3, σ = [some (.int n), some (.ref r), some (.int i), v3] ∧ Same H H' ∧ H' r = some (.lst xs) ∧ Paired (isM Z H') xs ((List.range i).flatMap (row n) ++ rowTo i j))
        ⟨xs, v3, rfl, s2, e2, by simpa [rowTo] using p2⟩ ?_ ?_⟩
      · rintro j σ H2 hj ⟨ys, v3, rfl, s3, e3, p3⟩
        refine ⟨_, rfl, _, rfl, rfl, _, rfl, ?_⟩
        by_cases hij : i = j
        · subst hij
          rw [decide_eq_true rfl]
          refine iteF ⟨ys, _, rfl, s3, e3, ?_⟩
          rw [rowTo_eq, if_pos rfl, List.append_nil]
          exact p3
        · rw [decide_eq_false (by simp; omega)]
          refine iteT ?_
          refine ⟨_, rfl, .inl ⟨rfl, _, SqL.of e3⟩, _, rfl, _, rfl, fun x dx nx ndx nex => ?_⟩
          refine ⟨x, dx, i, j, rfl, upd_same, by omega, by omega, hij, fun H4 kp hx => ⟨rfl, ?_⟩⟩
          have s4 : Same H2 H4 := fun c o e => kp c o (by rw [upd_ne (ne_of_none e nx), upd_ne (ne_of_none e ndx)]; exact e) (ne_of_none e nx)
          have hlen : ys.length ≤ 20 := by
            have h1 := p3.length
            have h2 := rows_len n i
            have h3 := rowTo_len i j
            rw [List.length_append] at h1
            have h4 : i * n ≤ 3 * 4 := Nat.mul_le_mul (by omega) hn
            omega
          refine ⟨r, _, _, rfl, rfl, s4 _ _ e3, small1000 (by omega), ?_⟩
          have fx1 : Fix H4 (upd H4 r (.lst (ys ++ [.ref x]))) := Fix.put (s4 _ _ e3) rfl
          refine ⟨_, _, rfl, (s3.trans s4).put nr, upd_same, ?_⟩
          rw [rowTo_eq, if_neg (fun e => hij e.symm), ← List.append_assoc]
          exact Paired.snocP (pm_fix p3 ((Fix.of s4).trans fx1)) ⟨x, rfl, dx, fx1 _ _ hx rfl⟩
      · rintro σ H2 ⟨ys, v3, rfl, s3, e3, p3⟩
        refine ⟨ys, _, _, rfl, s3, e3, ?_⟩
        rw [List.range_succ, List.flatMap_append]
        have e : (List.flatMap (row n) [i]) = rowTo i n := by simp [row, rowTo]
        rw [e]; exact p3
    · rintro σ H1 ⟨xs, v2, v3, rfl, s2, e2, p2⟩
      exact ⟨_, rfl, k r H1 xs s2 nr e2 p2⟩
def sp_moves (Z : Cz) (CH : Addr) : Sp := fun vs H Q _ => ∃ p sz tap, vs = [.ref p] ∧ House CH H p sz tap ∧ Hz sz ∧ ∀ r H' ys, Same H H' → H r = none → H' r = some (.lst ys) → Paired (isM Z H') ys (J.moves sz.length tap) → Q (.ref r) H'
theorem ok_moves {f : Addr} {fd : FuncData} (F : Fun K "moves" "House.moves" s_House_moves f fd) (B : Bt mg) (C : CHs K CH) (W : FnB P w K mg base 6 "pours_among" ["many"] (sp_pours_among Z))
    (MF : MkB P w K mg base 4 "Fill" Z.F ["self", "jug"] (sp_jug_init Z.F)) (ME : MkB P w K mg base 4 "Empty" Z.E ["self", "jug"] (sp_jug_init Z.E)) : FnOk P w K mg base CX0 7 f fd ["self"] (sp_moves Z CH) := by
  refine F.ok sc_House_moves (fun vs H Q E h => ?_) (fun cdv A outer s H vs Q E hr h => ?_)
  · obtain ⟨p, sz, tap, rfl, _⟩ := h
    rfl
  · obtain ⟨p, sz, tap, rfl, ⟨dx, t, hp, ht⟩, hz, k⟩ := h
    have hr5 : Room 5 _ := hr.mono (by decide)
    refine ⟨_, pss_cons (ps_set (i := 1) sc_House_moves.nd rfl (Or.inl rfl) (pe_callB call_len_seq (by rfl) B.len PySem.boot_len (pa_cons (pe_fld (pv 0) rfl) pa_nil)))
      (pss_cons (ps_set (i := 2) sc_House_moves.nd rfl (Or.inl rfl) (pe_fn W hr (pa_cons (pv 1) pa_nil)))
      (pss_cons (ps_if (pt_val (pe_fld (pv 0) rfl))
        (pss_cons (ps_expr (pe_extend (pv 2) (pe_lc sc_House_moves [] (pi_range1 (by rfl) B.range (pa_cons (pv 1) pa_nil)) (fun _ _ _ _ _ _ => ⟨pif_nil, pe_mk MF hr5 (pa_cons (pv 0) pa_nil)⟩))))
        (pss_one (ps_expr (pe_extend (pv 2) (pe_lc sc_House_moves [] (pi_range1 (by rfl) B.range (pa_cons (pv 1) pa_nil)) (fun _ _ _ _ _ _ => ⟨pif_nil, pe_mk ME hr5 (pa_cons (pv 0) pa_nil)⟩)))))) pss_nil)
      (pss_one (ps_ret (pv 2))))), ?_⟩
    have h4 := hz.l4
    refine ⟨_, rfl, p, CH, dx, _, _, rfl, hp, C.cl, C.js, hF_js _ _, t, _, rfl, .inr (SqT.of ht), ?_⟩
    rw [List.length_map]
    refine ⟨_, rfl, sz.length, rfl, h4, fun r H1 xs s1 nr e1 p1 => ?_⟩
    refine ⟨_, rfl, p, CH, dx, _, _, rfl, s1 _ _ hp, C.cl, C.tap, hF_tap _ _, _, rfl, ?_⟩
    have hlp : (J.pours sz.length).length ≤ 16 := by
      have h5 := rows_len sz.length sz.length
      have h6 : sz.length * sz.length ≤ 4 * 4 := Nat.mul_le_mul h4 h4
      exact Nat.le_trans h5 h6
    cases tap with
    | false =>
      refine iteF ⟨_, rfl, k r H1 xs s1 nr e1 ?_⟩
      simpa [J.moves] using p1
    | true =>
      refine iteT ?_
      -- told.extend([Fill(jug) ..])
      refine ⟨_, rfl, .inl ⟨rfl, _, SqL.of e1⟩, _, rfl, _, rfl, by omega, by omega, ?_⟩
      rw [Int.toNat_natCast]
      refine lc_rangeN (n := sz.length) (fun i ys H' => Same H1 H' ∧ Paired (isM Z H') ys ((List.range i).map J.Mv.fill)) ⟨Same.refl _, .nil⟩ (small1000 (by omega)) (fun i ys H' ⟨_, q⟩ => by rw [q.length]; simp) ?_ ?_
      · rintro i ys H2 hi ⟨s2, p2⟩
        refine tYes_of ⟨_, rfl, fun x dx' nx ndx nex => ⟨x, dx', i, rfl, upd_same, by omega, fun H4 kp hx => ⟨rfl, ?_⟩⟩⟩
        have s4 : Same H2 H4 := fun c o e => kp c o (by rw [upd_ne (ne_of_none e nx), upd_ne (ne_of_none e ndx)]; exact e) (ne_of_none e nx)
        refine ⟨s2.trans s4, ?_⟩
        rw [List.range_succ, List.map_append]
        exact Paired.snocP (pm_fix p2 (Fix.of s4)) ⟨x, rfl, dx', hx⟩
      · rintro ys H2 ⟨s2, p2⟩ D nD
        have s3 : Same H2 (upd H2 D (.lst ys)) := Same.new nD
        have e3 := s3 _ _ (s2 _ _ e1)
        have l1 := p1.length
        have l2 := p2.length
        rw [List.length_map, List.length_range] at l2
        refine ⟨r, D, xs, ys, rfl, rfl, e3, upd_same, Nat.le_of_lt (small1000 (by omega)), ?_⟩
        have f3 : Fix (upd H2 D (.lst ys)) (upd (upd H2 D (.lst ys)) r (.lst (xs ++ ys))) := Fix.put e3 rfl
        have s4 : Same H (upd (upd H2 D (.lst ys)) r (.lst (xs ++ ys))) := ((s1.trans s2).trans s3).put nr
        have p3 : Paired (isM Z (upd (upd H2 D (.lst ys)) r (.lst (xs ++ ys)))) (xs ++ ys) (J.pours sz.length ++ (List.range sz.length).map J.Mv.fill) :=
          Paired.appP (pm_fix p1 ((Fix.of (s2.trans s3)).trans f3)) (pm_fix p2 ((Fix.of s3).trans f3))
        refine ⟨_, rfl, .inl ⟨rfl, _, SqL.of upd_same⟩, _, rfl, _, rfl, by omega, by omega, ?_⟩
        rw [Int.toNat_natCast]
        refine lc_rangeN (n := sz.length) (fun i zs H' => Same (upd (upd H2 D (.lst ys)) r (.lst (xs ++ ys))) H' ∧ Paired (isM Z H') zs ((List.range i).map J.Mv.emp)) ⟨Same.refl _, .nil⟩ (small1000 (by omega)) (fun i ys H' ⟨_, q⟩ => by rw [q.length]; simp) ?_ ?_
        · rintro i zs H5 hi ⟨s5, p5⟩
          refine tYes_of ⟨_, rfl, fun x dx' nx ndx nex => ⟨x, dx', i, rfl, upd_same, by omega, fun H6 kp hx => ⟨rfl, ?_⟩⟩⟩
          have s6 : Same H5 H6 := fun c o e => kp c o (by rw [upd_ne (ne_of_none e nx), upd_ne (ne_of_none e ndx)]; exact e) (ne_of_none e nx)
          refine ⟨s5.trans s6, ?_⟩
          rw [List.range_succ, List.map_append]
          exact Paired.snocP (pm_fix p5 (Fix.of s6)) ⟨x, rfl, dx', hx⟩
        · rintro zs H5 ⟨s5, p5⟩ D2 nD2
          have s6 : Same H5 (upd H5 D2 (.lst zs)) := Same.new nD2
          have e6 := s6 _ _ (s5 _ _ upd_same)
          have l5 := p5.length
          rw [List.length_map, List.length_range] at l5
          refine ⟨r, D2, _, zs, rfl, rfl, e6, upd_same, Nat.le_of_lt (small1000 (by rw [List.length_append]; omega)), ?_⟩
          have f6 : Fix (upd H5 D2 (.lst zs)) (upd (upd H5 D2 (.lst zs)) r (.lst ((xs ++ ys) ++ zs))) := Fix.put e6 rfl
          refine ⟨_, rfl, k r _ _ (((s4.trans s5).trans s6).put nr) nr upd_same ?_⟩
          have e7 : J.moves sz.length true = (J.pours sz.length ++ (List.range sz.length).map J.Mv.fill) ++ (List.range sz.length).map J.Mv.emp := by simp [J.moves]
          rw [e7]
          exact Paired.appP (pm_fix p3 ((Fix.of (s5.trans s6)).trans f6)) (pm_fix p5 ((Fix.of s6).trans f6))
end
end Jug

namespace Jug
open PySem L2
/-! ### refusals: the kinds of values handed in -/
def numB : V → Int → Int → Bool
  | .int i, lo, hi => decide (lo ≤ i) && decide (i ≤ hi)
  | _, _, _ => false
inductive Kd (H : Hp) : V → String → Prop where
  | non : Kd H .non "NoneType"
  | bl (b : Bool) : Kd H (.bl b) "bool"
  | int (i : Int) : Kd H (.int i) "int"
  | str (x : Str) : Kd H (.str x) "str"
  | lst {a : Addr} {xs : List V} (e : H a = some (.lst xs)) : Kd H (.ref a) "list"
  | tup {a : Addr} {xs : List V} (e : H a = some (.tup xs)) : Kd H (.ref a) "tuple"
theorem Kd.ty {K : PySem.W.Frag} {H : Hp} {v : V} {t : String} (k : Kd H v t) : TyOf K H v (.type t) := by
  cases k with
  | non => exact .non
  | bl b => exact .bl b
  | int i => exact .int i
  | str x => exact .str x
  | lst e => exact .lst e
  | tup e => exact .tup e
theorem Kd.mono {H H' : Hp} {v : V} {t : String} (k : Kd H v t) (s : Same H H') : Kd H' v t := by
  cases k with
  | non => exact .non
  | bl b => exact .bl b
  | int i => exact .int i
  | str x => exact .str x
  | lst e => exact .lst (s _ _ e)
  | tup e => exact .tup (s _ _ e)
/-- a value that needs no heap -/
def Im (v : V) : Prop := ∃ t, t ≠ "list" ∧ t ≠ "tuple" ∧ ∀ H, Kd H v t
theorem Im.int (i : Int) : Im (.int i) := ⟨"int", by decide, by decide, fun _ => .int i⟩
section
variable {K : PySem.W.Frag}
theorem kit_ni : PySem.W.kitOne K (.type "NoneType") (.type "int") = some false := by
  unfold PySem.W.kitOne
  rw [if_neg (by decide)]
  with_unfolding_all rfl
theorem kit_si : PySem.W.kitOne K (.type "str") (.type "int") = some false := by
  unfold PySem.W.kitOne
  rw [if_neg (by decide)]
  with_unfolding_all rfl
theorem kit_li : PySem.W.kitOne K (.type "list") (.type "int") = some false := by
  unfold PySem.W.kitOne
  rw [if_neg (by decide)]
  with_unfolding_all rfl
theorem kit_ti : PySem.W.kitOne K (.type "tuple") (.type "int") = some false := by
  unfold PySem.W.kitOne
  rw [if_neg (by decide)]
  with_unfolding_all rfl
theorem kit_bi : PySem.W.kitOne K (.type "bool") (.type "int") = some true := by
  unfold PySem.W.kitOne
  rw [if_neg (by decide)]
  with_unfolding_all rfl
theorem kit_x {H : Hp} {v : V} {t b : String} (k : Kd H v t) (hb : b = "tuple" ∨ b = "list") (h : t ≠ b) : PySem.W.kitOne K (.type t) (.type b) = some false := by
  rcases hb with rfl | rfl <;> cases k <;> first | exact absurd rfl h | (unfold PySem.W.kitOne; rw [if_neg (by decide)]; with_unfolding_all rfl)
theorem kit_xb {H : Hp} {v : V} {t : String} (k : Kd H v t) (h : t ≠ "bool") : PySem.W.kitOne K (.type t) (.type "bool") = some false := by
  cases k <;> first | exact absurd rfl h | (unfold PySem.W.kitOne; rw [if_neg (by decide)]; with_unfolding_all rfl)
end
section
variable {P : Program} {w : World} {K : PySem.W.Frag} {mg : Str → Option Value} {base : Heap}
def sp_is_numG : Sp := fun vs H Q _ => ∃ v t, ∃ lo hi : Int, vs = [v, .int lo, .int hi] ∧ Kd H v t ∧ Q (.bl (numB v lo hi)) H
theorem ok_is_numG {f : Addr} {fd : FuncData} (F : Fun K "is_number" "is_number" s_is_number f fd) (B : Bt mg) : FnOk P w K mg base CX0 1 f fd ["value", "least", "most"] sp_is_numG := by
  refine F.ok sc_is_number (fun vs H Q E h => ?_) (fun cdv A outer s H vs Q E hr h => ?_)
  · obtain ⟨v, t, lo, hi, rfl, _⟩ := h
    rfl
  · obtain ⟨v, t, lo, hi, rfl, kd, k⟩ := h
    refine ⟨_, pss_one (ps_ret (pe_and (pe_callB call_isinst (by rfl) B.isinstance bt_isinstance (pa_cons (pv 0) (pa_cons (pe_bltn (v := .ty "int") (by rfl) B.int bt_int rfl) pa_nil)))
      (pe_and (pe_not (pe_callB call_isinst (by rfl) B.isinstance bt_isinstance (pa_cons (pv 0) (pa_cons (pe_bltn (v := .ty "bool") (by rfl) B.bool bt_bool rfl) pa_nil))))
      (pe_one (pe_chain op_le op_le (pv 1) (pv 0) (pv 2)))))), ?_⟩
    have kt := kd.ty (K := K)
    cases kd with
    | non => exact ⟨_, rfl, _, _, _, _, _, rfl, .ty "int", kt, kit_ni, _, rfl, iteF k⟩
    | str x => exact ⟨_, rfl, _, _, _, _, _, rfl, .ty "int", kt, kit_si, _, rfl, iteF k⟩
    | lst e => exact ⟨_, rfl, _, _, _, _, _, rfl, .ty "int", kt, kit_li, _, rfl, iteF k⟩
    | tup e => exact ⟨_, rfl, _, _, _, _, _, rfl, .ty "int", kt, kit_ti, _, rfl, iteF k⟩
    | bl b =>
      refine ⟨_, rfl, _, _, _, _, _, rfl, .ty "int", kt, kit_bi, _, rfl, iteT ?_⟩
      exact ⟨_, rfl, _, _, _, _, _, rfl, .ty "bool", kt, kit_bb, _, rfl, _, rfl, iteF k⟩
    | int i =>
      refine ⟨_, rfl, _, _, _, _, _, rfl, .ty "int", kt, kit_ii, _, rfl, iteT ?_⟩
      refine ⟨_, rfl, _, _, _, _, _, rfl, .ty "bool", kt, kit_ib, _, rfl, _, rfl, iteT ?_⟩
      refine ⟨_, rfl, _, rfl, _, _, rfl, rfl, _, rfl, ?_⟩
      have k : Q (.bl (decide (lo ≤ i) && decide (i ≤ hi))) H := k
      by_cases h1 : lo ≤ i
      · rw [decide_eq_true h1]
        refine iteT ⟨_, rfl, _, _, rfl, rfl, ?_⟩
        rw [decide_eq_true h1, Bool.true_and] at k
        exact k
      · rw [decide_eq_false h1]
        refine iteF ?_
        rw [decide_eq_false h1, Bool.false_and] at k
        exact k
def sp_is_jugG : Sp := fun vs H Q _ => ∃ v t, vs = [v] ∧ Kd H v t ∧ Q (.bl (numB v 0 3)) H
theorem ok_is_jugG {f : Addr} {fd : FuncData} (F : Fun K "is_jug" "is_jug" s_is_jug f fd) (B : Bt mg) (N : FnB P w K mg base 1 "is_number" ["value", "least", "most"] sp_is_numG) : FnOk P w K mg base CX0 2 f fd ["value"] sp_is_jugG := by
  obtain ⟨t4, e4⟩ := B.jugs
  refine F.ok sc_is_jug (fun vs H Q E h => ?_) (fun cdv A outer s H vs Q E hr h => ?_)
  · obtain ⟨v, t, rfl, _⟩ := h
    rfl
  · obtain ⟨v, t, rfl, kd, k⟩ := h
    refine ⟨_, pss_one (ps_ret (pe_fn N hr (pa_cons (pv 0) (pa_cons pe_int (pa_cons (pe_op op_sub (pe_glob (v := .int 4) (by rfl) e4 ⟨_, rfl⟩) pe_int) pa_nil))))), ?_⟩
    exact ⟨_, rfl, _, _, rfl, rfl, v, t, 0, 3, rfl, kd, k⟩
/-- both promises of one def -/
theorem FnOk.or {CX : CXT} {k : Nat} {f : Addr} {fd : FuncData} {ps : List Str} {s1 s2 : Sp} (F1 : FnOk P w K mg base CX k f fd ps s1) (F2 : FnOk P w K mg base CX k f fd ps s2) : FnOk P w K mg base CX k f fd ps (fun vs H Q E => s1 vs H Q E ∨ s2 vs H Q E) :=
  ⟨fun vs H Q E h => h.elim (F1.len vs H Q E) (F2.len vs H Q E), fun A outer s H args us vs Q E hr e hb hv h => h.elim (F1.run A outer s H args us vs Q E hr e hb hv) (F2.run A outer s H args us vs Q E hr e hb hv)⟩
/-! ### the checks refuse -/
def sp_refuse (C : Addr) (lo hi : Int) : Sp := fun vs H _ E => ∃ v t, vs = [v] ∧ Kd H v t ∧ numB v lo hi = false ∧ E (.ref C) none H
theorem ok_check_jugX {f : Addr} {fd : FuncData} {CB : Addr} (F : Fun K "check_jug" "check_jug" s_check_jug f fd) (X : XC K mg "BadMove" CB) (N : FnB P w K mg base 2 "is_jug" ["value"] sp_is_jugG) : FnOk P w K mg base (CX1 P w) 3 f fd ["jug"] (sp_refuse CB 0 3) := by
  refine F.okX sc_check_jug (fun vs H Q E h => ?_) (fun cdv A outer s H vs Q E hr h => ?_)
  · obtain ⟨v, t, rfl, _⟩ := h
    rfl
  · obtain ⟨v, t, rfl, kd, hn, k⟩ := h
    refine ⟨_, pss_one (ps_if (pt_not (pt_val (pe_fn N hr (pa_cons (pv 0) pa_nil)))) (pss_one (ps_raise bdX xeX rfl X)) pss_nil), ?_⟩
    refine ⟨_, rfl, v, t, rfl, kd, _, rfl, ?_⟩
    rw [hn]
    exact iteT k
end
section
variable {P : Program} {w : World} {K : PySem.W.Frag} {mg : Str → Option Value} {base : Heap} {CH CS CB : Addr} {Z : Cz}
def sp_Pour_initX (CB : Addr) : Sp := fun vs H _ E => ∃ p v u tv tu, vs = [.ref p, v, u] ∧ Kd H v tv ∧ Kd H u tu ∧ (numB v 0 3 = false ∨ ∃ a : Nat, v = .int a ∧ a ≤ 3 ∧ (numB u 0 3 = false ∨ u = .int a)) ∧ ∀ H', Same H H' → E (.ref CB) none H'
theorem ok_Pour_initX {f : Addr} {fd : FuncData} (F : Fun K "__init__" "Pour.__init__" s_Pour_init f fd) (X : XC K mg "BadMove" CB) (N : FnB P w K mg base 3 "check_jug" ["jug"] sp_check_jug) (NX : FnX P w K mg base 3 "check_jug" ["jug"] (sp_refuse CB 0 3)) :
    FnOk P w K mg base (CX1 P w) 4 f fd ["self", "one", "other"] (sp_Pour_initX CB) := by
  refine F.okX sc_Pour_init (fun vs H Q E h => ?_) (fun cdv A outer s H vs Q E hr h => ?_)
  · obtain ⟨p, v, u, tv, tu, rfl, _⟩ := h
    rfl
  · obtain ⟨p, v, u, tv, tu, rfl, kv, ku, hb, k⟩ := h
    rcases hb with hb | ⟨a, rfl, ha, hb | rfl⟩
    · refine ⟨_, pss_cons (ps_expr (pe_fnX bdX xeX NX hr (pa_cons (pv 1) pa_nil))) pss_never, ?_⟩
      exact ⟨_, rfl, v, tv, rfl, kv, hb, k H (Same.refl _)⟩
    · refine ⟨_, pss_cons (ps_expr (pe_fn N hr (pa_cons (pv 1) pa_nil))) (pss_cons (ps_expr (pe_fnX bdX xeX NX hr (pa_cons (pv 2) pa_nil))) pss_never), ?_⟩
      exact ⟨_, rfl, a, rfl, ha, _, rfl, u, tu, rfl, ku, hb, k H (Same.refl _)⟩
    · refine ⟨_, pss_cons (ps_expr (pe_fn N hr (pa_cons (pv 1) pa_nil))) (pss_cons (ps_expr (pe_fn N hr (pa_cons (pv 2) pa_nil)))
        (pss_cons (ps_if (pt_cmpR op_eq (pv 1) (pv 2) (nomark _)) (pss_one (ps_raise bdX xeX rfl X)) pss_nil) pss_never)), ?_⟩
      refine ⟨_, rfl, a, rfl, ha, _, rfl, a, rfl, ha, _, rfl, _, rfl, rfl, _, rfl, ?_⟩
      rw [decide_eq_true (by simp)]
      exact iteT (k H (Same.refl _))
def sp_jug_initX (CB : Addr) : Sp := fun vs H _ E => ∃ p v tv, vs = [.ref p, v] ∧ Kd H v tv ∧ numB v 0 3 = false ∧ ∀ H', Same H H' → E (.ref CB) none H'
theorem ok_Fill_initX {f : Addr} {fd : FuncData} (F : Fun K "__init__" "Fill.__init__" s_Fill_init f fd) (NX : FnX P w K mg base 3 "check_jug" ["jug"] (sp_refuse CB 0 3)) : FnOk P w K mg base (CX1 P w) 4 f fd ["self", "jug"] (sp_jug_initX CB) := by
  refine F.okX sc_Fill_init (fun vs H Q E h => ?_) (fun cdv A outer s H vs Q E hr h => ?_)
  · obtain ⟨p, v, tv, rfl, _⟩ := h
    rfl
  · obtain ⟨p, v, tv, rfl, kv, hb, k⟩ := h
    exact ⟨_, pss_cons (ps_expr (pe_fnX bdX xeX NX hr (pa_cons (pv 1) pa_nil))) pss_never, _, rfl, v, tv, rfl, kv, hb, k H (Same.refl _)⟩
theorem ok_Empty_initX {f : Addr} {fd : FuncData} (F : Fun K "__init__" "Empty.__init__" s_Empty_init f fd) (NX : FnX P w K mg base 3 "check_jug" ["jug"] (sp_refuse CB 0 3)) : FnOk P w K mg base (CX1 P w) 4 f fd ["self", "jug"] (sp_jug_initX CB) := by
  refine F.okX sc_Empty_init (fun vs H Q E h => ?_) (fun cdv A outer s H vs Q E hr h => ?_)
  · obtain ⟨p, v, tv, rfl, _⟩ := h
    rfl
  · obtain ⟨p, v, tv, rfl, kv, hb, k⟩ := h
    exact ⟨_, pss_cons (ps_expr (pe_fnX bdX xeX NX hr (pa_cons (pv 1) pa_nil))) pss_never, _, rfl, v, tv, rfl, kv, hb, k H (Same.refl _)⟩
def BadSz (H : Hp) (v : V) : Prop := (∃ t, Kd H v t ∧ t ≠ "list") ∨ ∃ l xs, v = .ref l ∧ H l = some (.lst xs) ∧ (∀ x ∈ xs, Im x) ∧
  (xs.length = 0 ∨ 4 < xs.length ∨ (∃ x ∈ xs, numB x 1 60 = false) ∨ ∃ sz : List Int, xs = sz.map V.int ∧ (∀ s ∈ sz, 1 ≤ s ∧ s ≤ 60) ∧ 2000 < J.prod1 sz)
def sp_sizes_inX (CB : Addr) : Sp := fun vs H _ E => ∃ v, vs = [v] ∧ BadSz H v ∧ ∀ H', Same H H' → E (.ref CB) none H'
theorem ok_sizes_inX {f : Addr} {fd : FuncData} (F : Fun K "sizes_in" "sizes_in" s_sizes_in f fd) (B : Bt mg) (hst : ∃ t, mg "MOST_STATES" = some (.int 2000 t)) (X : XC K mg "BadHouse" CB) (N : FnB P w K mg base 1 "is_number" ["value", "least", "most"] sp_is_numG)
    (C : FnB P w K mg base 1 "count_states" ["sizes"] sp_count_states) : FnOk P w K mg base (CX1 P w) 2 f fd ["sizes"] (sp_sizes_inX CB) := by
  obtain ⟨t4, e4⟩ := B.jugs
  obtain ⟨t60, e60⟩ := B.size
  obtain ⟨t2, e2⟩ := hst
  refine F.okX sc_sizes_in (fun vs H Q E h => ?_) (fun cdv A outer s H vs Q E hr h => ?_)
  · obtain ⟨v, rfl, _⟩ := h
    rfl
  · obtain ⟨v, rfl, hb, k⟩ := h
    refine ⟨_, pss_cons (ps_if (pt_not (pt_val (pe_callB call_isinst (by rfl) B.isinstance bt_isinstance (pa_cons (pv 0) (pa_cons (pe_bltn (v := .ty "list") (by rfl) B.list bt_list rfl) pa_nil))))) (pss_one (ps_raise bdX xeX rfl X)) pss_nil)
      (pss_cons (ps_set (i := 1) sc_sizes_in.nd rfl (Or.inl rfl) (pe_callTy call_list_of (by rfl) B.list bt_list (pa_cons (pv 0) pa_nil)))
      (pss_cons (ps_if (pt_not (pt_chain op_le op_le pe_int (pe_callB call_len_seq (by rfl) B.len PySem.boot_len (pa_cons (pv 1) pa_nil)) (pe_glob (v := .int 4) (by rfl) e4 ⟨_, rfl⟩))) (pss_one (ps_raise bdX xeX rfl X)) pss_nil)
      (pss_cons (ps_for ownX rfl (pi_list (pv 1)) (pg_name (i := 2) sc_sizes_in.nd rfl (Or.inl rfl))
        (pss_one (ps_if (pt_not (pt_val (pe_fn N hr (pa_cons (pv 2) (pa_cons pe_int (pa_cons (pe_glob (v := .int 60) (by rfl) e60 ⟨_, rfl⟩) pa_nil)))))) (pss_one (ps_raise bdX xeX rfl X)) pss_nil)))
      (pss_cons (ps_if (pt_cmpR op_gt (pe_fn C hr (pa_cons (pv 1) pa_nil)) (pe_glob (v := .int 2000) (by rfl) e2 ⟨_, rfl⟩) (nomark _)) (pss_one (ps_raise bdX xeX rfl X)) pss_nil)
      (pss_one (ps_ret (pv 1))))))), ?_⟩
    rcases hb with ⟨t, kd, nt⟩ | ⟨l, xs, rfl, hl, him, hb⟩
    · exact ⟨_, rfl, _, _, _, _, _, rfl, .ty "list", kd.ty, kit_x kd (.inr rfl) nt, _, rfl, iteT (k H (Same.refl _))⟩
    refine ⟨_, rfl, _, _, _, _, _, rfl, .ty "list", .lst hl, kit_ll, _, rfl, iteF ?_⟩
    refine ⟨_, rfl, l, _, rfl, .inl (SqL.of hl), fun r nr => ?_⟩
    have s1 : Same H (upd H r (.lst xs)) := Same.new nr
    refine ⟨_, rfl, r, _, rfl, .inl (SqL.of upd_same), _, _, rfl, rfl, _, rfl, ?_⟩
    by_cases h1 : xs.length = 0
    · rw [decide_eq_false (by omega)]
      exact iteF ⟨_, rfl, iteT (k _ s1)⟩
    rw [decide_eq_true (by omega)]
    refine iteT ⟨_, _, rfl, rfl, _, rfl, ?_⟩
    by_cases h4 : 4 < xs.length
    · rw [decide_eq_false (by omega)]
      exact iteT (k _ s1)
    rw [decide_eq_true (by omega)]
    refine iteF ?_
    refine ⟨_, rfl, r, rfl, ⟨_, SqL.of upd_same⟩, for_list (K := K) (a := r) (xs := xs) (fun i σ H' => (∃ v, σ = [some (.ref l), some (.ref r), v] ∧ H' = upd H r (.lst xs)) ∧ ∀ (j : Nat) x, j < i → xs[j]? = some x → numB x 1 60 = true)
      ⟨⟨none, rfl, rfl⟩, fun j x h => absurd h (Nat.not_lt_zero _)⟩ (fun i σ H' _ ⟨⟨_, _, e⟩, _⟩ => by subst e; exact SqL.of upd_same) ?_ ?_⟩
    · rintro i x σ H' hx ⟨⟨v, rfl, rfl⟩, ih⟩
      obtain ⟨tx, _, _, kx⟩ := him x (List.mem_of_getElem? hx)
      refine ⟨_, rfl, x, tx, 1, 60, rfl, kx _, _, rfl, ?_⟩
      cases hn : numB x 1 60 with
      | false => exact iteT (k _ s1)
      | true =>
        refine iteF ⟨⟨_, rfl, rfl⟩, fun j y hj ej => ?_⟩
        rcases Nat.lt_succ_iff_lt_or_eq.mp hj with hj | rfl
        · exact ih j y hj ej
        · rw [hx] at ej; cases ej; exact hn
    · rintro σ H' ⟨⟨v, rfl, rfl⟩, ih⟩
      rcases hb with hb | hb | ⟨x, hx, hb⟩ | ⟨sz, rfl, hbd, hb⟩
      · exact absurd hb h1
      · exact absurd hb h4
      · obtain ⟨j, hj⟩ := List.getElem?_of_mem hx
        rw [ih j x (List.getElem?_eq_some_iff.mp hj).1 hj] at hb
        cases hb
      · refine ⟨_, rfl, r, sz, rfl, upd_same, hbd, _, _, rfl, rfl, _, rfl, ?_⟩
        rw [decide_eq_true (by omega)]
        exact iteT (k _ s1)
def sp_House_initX (CH CB : Addr) : Sp := fun vs H _ E => ∃ (p dx : Addr) (v u : V), vs = [.ref p, v, u] ∧ H p = some (.ins CH dx []) ∧ (BadSz H v ∨ ∃ l sz t, v = .ref l ∧ H l = some (.lst (sz.map V.int)) ∧ Hz sz ∧ Kd H u t ∧ t ≠ "bool") ∧
  ∀ H', (∀ c o, H c = some o → c ≠ p → H' c = some o) → E (.ref CB) none H'
theorem ok_House_initX {f : Addr} {fd : FuncData} (F : Fun K "__init__" "House.__init__" s_House_init f fd) (B : Bt mg) (C : CHs K CH) (X : XC K mg "BadHouse" CB) (N : FnB P w K mg base 2 "sizes_in" ["sizes"] sp_sizes_in) (NX : FnX P w K mg base 2 "sizes_in" ["sizes"] (sp_sizes_inX CB)) :
    FnOk P w K mg base (CX1 P w) 3 f fd ["self", "sizes", "tap"] (sp_House_initX CH CB) := by
  refine F.okX sc_House_init (fun vs H Q E h => ?_) (fun cdv A outer s H vs Q E hr h => ?_)
  · obtain ⟨p, dx, v, u, rfl, _⟩ := h
    rfl
  · obtain ⟨p, dx, v, u, rfl, hp, hb, k⟩ := h
    rcases hb with hb | ⟨l, sz, t, rfl, hl, hz, ku, nt⟩
    · refine ⟨_, pss_cons (ps_fld (pv 0) (pe_callTy call_tuple_of (by rfl) B.tuple bt_tuple (pa_cons (pe_fnX bdX xeX NX hr (pa_cons (pv 1) pa_nil)) pa_nil)) rfl) pss_never, ?_⟩
      exact ⟨_, rfl, v, rfl, hb, fun H' s' => k H' fun c u e _ => s' c u e⟩
    refine ⟨_, pss_cons (ps_fld (pv 0) (pe_callTy call_tuple_of (by rfl) B.tuple bt_tuple (pa_cons (pe_fn N hr (pa_cons (pv 1) pa_nil)) pa_nil)) rfl)
      (pss_cons (ps_if (pt_not (pt_val (pe_callB call_isinst (by rfl) B.isinstance bt_isinstance (pa_cons (pv 2) (pa_cons (pe_bltn (v := .ty "bool") (by rfl) B.bool bt_bool rfl) pa_nil))))) (pss_one (ps_raise bdX xeX rfl X)) pss_nil) pss_never), ?_⟩
    refine ⟨_, rfl, l, sz, rfl, hl, hz, fun r H1 s1 hr1 => ?_⟩
    refine ⟨r, _, rfl, .inl ⟨SqL.of hr1, fun t' nt' => ?_⟩⟩
    have s2 : Same H (upd H1 t' (.tup (sz.map V.int))) := s1.lay nt'
    refine ⟨_, rfl, p, CH, dx, [], rfl, s2 _ _ hp, C.cl, C.js, (by show 0 < 1000; decide), ?_⟩
    have ku' : Kd (upd (upd H1 t' (.tup (sz.map V.int))) p (.ins CH dx (putF "jug_sizes" (.ref t') []))) u t := by
      cases ku with
      | non => exact .non
      | bl b => exact .bl b
      | int i => exact .int i
      | str x => exact .str x
      | lst e => exact .lst (by rw [upd_ne (fun z => by rw [z, hp] at e; cases e)]; exact s2 _ _ e)
      | tup e => exact .tup (by rw [upd_ne (fun z => by rw [z, hp] at e; cases e)]; exact s2 _ _ e)
    refine ⟨_, rfl, _, _, _, _, _, rfl, .ty "bool", ku'.ty, kit_xb ku nt, _, rfl, iteT ?_⟩
    exact k _ fun c o e hc => by rw [upd_ne hc]; exact s2 _ _ e
end
end Jug

namespace Jug
open PySem L2
/-! ### texts: numbers -/
section
variable {P : Program} {w : World} {K : PySem.W.Frag} {mg : Str → Option Value} {base : Heap} {CH CT : Addr} {Z : Cz}
def sp_check_text (CT : Addr) : Sp := fun vs H Q E => ∃ v t, vs = [v] ∧ Kd H v t ∧ ((t = "str" ∧ Q .non H) ∨ (t ≠ "str" ∧ E (.ref CT) none H))
theorem kit_xs {H : Hp} {v : V} {t : String} (k : Kd H v t) : PySem.W.kitOne K (.type t) (.type "str") = some (decide (t = "str")) := by
  cases k <;> first | (rw [decide_eq_true rfl]; unfold PySem.W.kitOne; rw [if_pos (by simp)]) | (rw [decide_eq_false (by decide)]; unfold PySem.W.kitOne; rw [if_neg (by decide)]; with_unfolding_all rfl)
theorem ok_check_text {f : Addr} {fd : FuncData} (F : Fun K "check_text" "check_text" s_check_text f fd) (B : Bt mg) (hs : mg "str" = none) (X : XC K mg "BadText" CT) : FnOk P w K mg base (CX1 P w) 1 f fd ["text"] (sp_check_text CT) := by
  refine F.okX sc_check_text (fun vs H Q E h => ?_) (fun cdv A outer s H vs Q E hr h => ?_)
  · obtain ⟨v, t, rfl, _⟩ := h
    rfl
  · obtain ⟨v, t, rfl, kd, k⟩ := h
    refine ⟨_, pss_one (ps_if (pt_not (pt_val (pe_callB call_isinst (by rfl) B.isinstance bt_isinstance (pa_cons (pv 0) (pa_cons (pe_bltn (v := .ty "str") (by rfl) hs bt_str rfl) pa_nil))))) (pss_one (ps_raise bdX xeX rfl X)) pss_nil), ?_⟩
    refine ⟨_, rfl, _, _, _, _, _, rfl, .ty "str", kd.ty, kit_xs kd, _, rfl, ?_⟩
    rcases k with ⟨e, q⟩ | ⟨e, q⟩
    · rw [decide_eq_true e]; exact iteF q
    · rw [decide_eq_false e]; exact iteT q
/-- a number: what it is, or a refusal -/
def sp_num (CT : Addr) : Sp := fun vs H Q E => ∃ x, vs = [.str x] ∧ x.length ≤ 10000 ∧ (J.okW x = true → Q (.int (J.numW x)) H) ∧ (J.okW x = false → E (.ref CT) none H)
theorem ok_number_of {f : Addr} {fd : FuncData} (F : Fun K "number_of" "number_of" s_number_of f fd) (B : Bt mg) (h2 : ∃ t, mg "MOST_FIGURES" = some (.int 2 t)) (hf : ∃ t, mg "FIGURES" = some (.str J.figs t)) (X : XC K mg "BadText" CT) : FnOk P w K mg base (CX1 P w) 1 f fd ["word"] (sp_num CT) := by
  obtain ⟨t2, e2⟩ := h2
  obtain ⟨tf, ef⟩ := hf
  refine F.okX sc_number_of (fun vs H Q E h => ?_) (fun cdv A outer s H vs Q E hr h => ?_)
  · obtain ⟨x, rfl, _⟩ := h
    rfl
  · obtain ⟨x, rfl, hx, k1, k2⟩ := h
    have nd := sc_number_of.nd
    have hz : x.length ≤ sizeLine := by rw [sizeLine_eq]; omega
    refine ⟨_, pss_cons (ps_if (pt_not (pt_chain op_le op_le pe_int (pe_callB call_len_str (by rfl) B.len PySem.boot_len (pa_cons (pv 0) pa_nil)) (pe_glob (v := .int 2) (by rfl) e2 ⟨_, rfl⟩))) (pss_one (ps_raise bdX xeX rfl X)) pss_nil)
      (pss_cons (ps_for ownX rfl (pi_str (pv 0)) (pg_name (i := 1) nd rfl (Or.inl rfl))
        (pss_one (ps_if (pt_cmpR op_notin_str (pv 1) (pe_glob (v := .str J.figs) (by rfl) ef ⟨_, rfl⟩) (by rfl)) (pss_one (ps_raise bdX xeX rfl X)) pss_nil)))
      (pss_cons (ps_if (PW.pt (pw_and (pt_cmpR op_eq (pe_ix ix_str (pv 0) pe_int (by intro _ _; rfl)) pe_str (nomark _)) (pw_and1 (pt_cmpR op_gt (pe_callB call_len_str (by rfl) B.len PySem.boot_len (pa_cons (pv 0) pa_nil)) pe_int (nomark _))))) (pss_one (ps_raise bdX xeX rfl X)) pss_nil)
      (pss_one (ps_ret (pe_callTy call_int_str (by rfl) B.int bt_int (pa_cons (pv 0) pa_nil)))))), ?_⟩
    refine ⟨_, rfl, x, rfl, hz, _, _, rfl, rfl, _, rfl, ?_⟩
    have hl : x.cps.toList.length = x.length := by simp [Str.length]
    by_cases h0 : x.length = 0
    · rw [decide_eq_false (by omega)]
      refine iteF ⟨_, rfl, iteT (k2 ?_)⟩
      unfold J.okW
      rw [List.length_eq_zero_iff.mp (hl.trans h0)]
      rfl
    rw [decide_eq_true (by omega)]
    refine iteT ⟨_, _, rfl, rfl, _, rfl, ?_⟩
    by_cases h3 : 2 < x.length
    · rw [decide_eq_false (by omega)]
      refine iteT (k2 ?_)
      unfold J.okW
      match h : x.cps.toList, hl with
      | [], hl => rfl
      | [_], hl => simp at hl; omega
      | [_, _], hl => simp at hl; omega
      | _ :: _ :: _ :: _, _ => rfl
    rw [decide_eq_true (by omega)]
    refine iteF ?_
    have bad : ∀ c, c ∈ x.cps.toList → J.isFig c = false → J.okW x = false := fun c hc hf => by
      cases e : J.okW x with
      | false => rfl
      | true =>
        rcases J.ok_cases e with ⟨k, hk, rfl, _⟩ | ⟨k, l, hk, hl, _, rfl, _⟩
        · simp at hc; subst hc; simp [J.isFig] at hf; omega
        · simp at hc; rcases hc with rfl | rfl <;> (simp [J.isFig] at hf; omega)
    refine ⟨_, rfl, x, rfl, for_str (x := x) (fun i σ H' => (∃ v, σ = [some (.str x), v] ∧ H' = H) ∧ ∀ (j : Nat) c, j < i → x.cps[j]? = some c → J.isFig c = true) ⟨⟨none, rfl, rfl⟩, fun j c h => absurd h (Nat.not_lt_zero _)⟩ ?_ ?_⟩
    · rintro i c σ H' hc ⟨⟨v, rfl, rfl⟩, ih⟩
      refine ⟨_, rfl, ⟨#[c]⟩, J.figs, rfl, rfl, _, rfl, ?_⟩
      rw [J.occ_in]
      cases hf : J.isFig c with
      | false => exact iteT (k2 (bad c (List.mem_of_getElem? (i := i) (by simpa using hc)) hf))
      | true =>
        refine iteF ⟨⟨_, rfl, rfl⟩, fun j d hj ej => ?_⟩
        rcases Nat.lt_succ_iff_lt_or_eq.mp hj with hj | rfl
        · exact ih j d hj ej
        · rw [hc] at ej; cases ej; exact hf
    · rintro σ H' ⟨⟨v, rfl, rfl⟩, ih⟩
      have allf : ∀ c ∈ x.cps.toList, J.isFig c = true := fun c hc => by
        obtain ⟨j, hj⟩ := List.getElem?_of_mem hc
        have : j < x.cps.size := by have := (List.getElem?_eq_some_iff.mp hj).1; simpa using this
        exact ih j c this (by simpa using hj)
      match hxl : x.cps.toList, hl with
      | [], hl => simp at hl; omega
      | [c], hl =>
        have e : J.okW x = true := by unfold J.okW; rw [hxl]; exact allf c (by rw [hxl]; simp)
        refine ⟨_, rfl, x, 0, c, rfl, rfl, hz, (by rw [hxl]; rfl), rfl, _, rfl, ?_⟩
        have last : tRet (tCB (fun xs H Q => ∃ x n, xs = [V.str x] ∧ intText? x = some n ∧ x.length ≤ 640 ∧ Q (V.int n) H) (tCons (tVar 0) tNil)) { nx := fun x H' => Q V.non H', rt := Q } [some (V.str x), v] H' := ⟨_, rfl, x, _, rfl, J.ok_int e, by omega, k1 e⟩
        by_cases hc : V.str ⟨#[c]⟩ = V.str "0"
        · rw [decide_eq_true hc]
          refine iteT ⟨_, rfl, x, rfl, hz, _, _, rfl, rfl, _, rfl, ?_⟩
          rw [decide_eq_false (by simp at hl; omega)]
          exact iteF last
        · rw [decide_eq_false hc]
          exact iteF (iteF last)
      | [c, d], hl =>
        refine ⟨_, rfl, x, 0, c, rfl, rfl, hz, (by rw [hxl]; rfl), rfl, _, rfl, ?_⟩
        have fc := allf c (by rw [hxl]; simp)
        have fd := allf d (by rw [hxl]; simp)
        by_cases hc : V.str ⟨#[c]⟩ = V.str "0"
        · rw [decide_eq_true hc]
          refine iteT ⟨_, rfl, x, rfl, hz, _, _, rfl, rfl, _, rfl, ?_⟩
          rw [decide_eq_true (by simp at hl; omega)]
          refine iteT (k2 ?_)
          have h48 : c = 48 := by
            injection hc with hc
            have h0 : ("0" : Str) = ⟨#[48]⟩ := by decide +kernel
            rw [h0] at hc
            simpa using hc
          unfold J.okW
          rw [hxl]
          subst h48
          show (J.isFig 48 && J.isFig d && 48 != 48) = false
          simp
        · rw [decide_eq_false hc]
          have e : J.okW x = true := by
            unfold J.okW; rw [hxl]
            show (J.isFig c && J.isFig d && c != 48) = true
            rw [fc, fd]
            simp only [Bool.and_self, Bool.true_and, bne_iff_ne, ne_eq]
            rintro rfl
            exact hc (by rfl)
          exact iteF (iteF ⟨_, rfl, x, _, rfl, J.ok_int e, by omega, k1 e⟩)
      | _ :: _ :: _ :: _, hl => simp at hl; omega
end
end Jug

namespace Jug
open PySem L2
/-! ### texts: houses -/
theorem pStrs : ∀ l : List Str, Paired isS (l.map V.str) l
  | [] => .nil
  | _ :: l => .cons rfl (pStrs l)
theorem rcLS {X : Cx} {H : Hp} {a b : Addr} {s t : List Str} (ha : H a = some (.lst (s.map V.str))) (hb : H b = some (.lst (t.map V.str))) : RcD X H 20 (.ref a) (.ref b) (decide (s = t)) :=
  (EqR.lst (EqR.str (X := X) (H := H) (d := 19))).rc _ _ _ _ ⟨a, _, rfl, SqL.of ha, pStrs s⟩ ⟨b, _, rfl, SqL.of hb, pStrs t⟩
theorem cut_take {xs : List V} (k : Nat) : cutV xs none (some (k : Int)) = xs.take k := by
  unfold cutV
  rw [HT.sIx_none, HT.sIx_nat, List.drop_zero, Nat.sub_zero]
  rcases Nat.le_total k xs.length with h | h
  · rw [Nat.min_eq_left h]
  · rw [Nat.min_eq_right h, List.take_of_length_le (Nat.le_refl _), List.take_of_length_le h]
theorem cut_drop {xs : List V} (k : Nat) : cutV xs (some (k : Int)) none = xs.drop k := by
  unfold cutV
  rw [HT.sIx_none, HT.sIx_nat]
  rcases Nat.le_total k xs.length with h | h
  · rw [Nat.min_eq_left h, List.take_of_length_le (by rw [List.length_drop]; omega)]
  · rw [Nat.min_eq_right h, List.drop_of_length_le (Nat.le_refl _), List.drop_of_length_le h, List.take_nil]
theorem at_last {l : List Str} {z : Str} (h : l.getLast? = some z) : atI (l.map V.str) (-1) = some (.str z) := by
  have h0 : l ≠ [] := fun e => by subst e; cases h
  have hl : 0 < l.length := List.length_pos_iff.mpr h0
  unfold atI ixN
  rw [List.length_map, if_neg (by decide), if_pos (by omega)]
  show (l.map V.str)[(-1 + (l.length : Int)).toNat]? = _
  rw [show (-1 + (l.length : Int)).toNat = l.length - 1 by omega, List.getElem?_map, ← List.getLast?_eq_getElem?, h]
  rfl
theorem wds_last (x : Str) : ∃ z, (J.wds x).getLast? = some z ∧ J.tapW x = decide (z = "tap") := by
  have h : 1 ≤ (J.wds x).length := PyProof.Rows.split_pos x " "
  cases e : (J.wds x).getLast? with
  | none => rw [List.getLast?_eq_none_iff] at e; rw [e] at h; simp at h
  | some z =>
    refine ⟨z, rfl, ?_⟩
    unfold J.tapW
    rw [e, Bool.eq_iff_iff]
    simp
theorem wd_le (x : Str) : (J.wd x).length ≤ x.length + 2 := by
  have h : (J.wds x).length ≤ x.length + 2 := PyProof.Rows.split_le x " "
  unfold J.wd
  split
  · rw [List.length_dropLast]; omega
  · exact h
theorem wd_short {x z : Str} (h : z ∈ J.wd x) : z.length ≤ x.length := by
  refine PyProof.Rows.part_short (y := " ") ?_
  unfold J.wd at h
  split at h
  · exact List.dropLast_subset _ h
  · exact h
theorem bad_sz {H : Hp} {d : Addr} {sz : List Int} (e : H d = some (.lst (sz.map V.int))) (h : J.hzB sz = false) : BadSz H (.ref d) := by
  refine .inr ⟨d, _, rfl, e, fun x hx => ?_, ?_⟩
  · obtain ⟨i, _, rfl⟩ := List.mem_map.mp hx
    exact .int i
  · rw [List.length_map]
    by_cases h1 : sz.length = 0
    · exact .inl h1
    by_cases h2 : 4 < sz.length
    · exact .inr (.inl h2)
    by_cases h3 : ∀ s ∈ sz, 1 ≤ s ∧ s ≤ 60
    · refine .inr (.inr (.inr ⟨sz, rfl, h3, ?_⟩))
      unfold J.hzB at h
      have : sz.all (fun s => decide (1 ≤ s) && decide (s ≤ 60)) = true := by
        rw [List.all_eq_true]
        intro s hs
        have := h3 s hs
        rw [decide_eq_true this.1, decide_eq_true this.2]; rfl
      rw [this, decide_eq_true (by omega), decide_eq_true (by omega)] at h
      simp at h
      exact h
    · refine .inr (.inr (.inl ?_))
      simp only [Classical.not_forall] at h3
      obtain ⟨s, hs, hb⟩ := h3
      refine ⟨.int s, List.mem_map_of_mem hs, ?_⟩
      show (decide (1 ≤ s) && decide (s ≤ 60)) = false
      rw [Bool.eq_false_iff]
      intro z
      simp only [Bool.and_eq_true, decide_eq_true_eq] at z
      exact hb z
theorem dec_strs (a b : Str) : decide (V.str a = V.str b) = decide (a = b) := by
  rw [Bool.eq_iff_iff]; simp
section
variable {X : Cx} {a : Expr} {ta : TE} {apos cpos : Pos}
theorem pe_pop (ha : PE X a ta) (hbase : attributeBase a "pop" X.env (eval a X.env) = eval a X.env := by rfl) (hline : (apos.endLine == cpos.line) = true := by rfl) :
    PE X (.Call (.Attribute a "pop" apos) [] [] cpos) (tBM0 X.K "list" rPop ta) :=
  pe_bm0 PySem.F.plainAttrs_list PySem.F.slot_list_pop PySem.F.type_list_pop mt_pop ha hbase hline
end
section
variable {P : Program} {w : World} {K : PySem.W.Frag} {mg : Str → Option Value} {base : Heap} {CH CT CB : Addr} {Z : Cz}
def sp_House2 (CH CB : Addr) : Sp := fun vs H Q E => sp_House_init CH vs H Q E ∨ sp_House_initX CH CB vs H Q E
def sp_house_of (CH CT : Addr) : Sp := fun vs H Q E => ∃ x, vs = [.str x] ∧ x.length ≤ 10000 ∧ (J.hsOk x = true → ∀ p H', Same H H' → House CH H' p (J.szW x) (J.tapW x) → Q (.ref p) H') ∧ (J.hsOk x = false → ∀ o H', Same H H' → E (.ref CT) o H')
theorem ok_house_of {f : Addr} {fd : FuncData} (F : Fun K "house_of" "house_of" s_house_of f fd) (B : Bt mg) (X : XC K mg "BadText" CT) (XB : XC K mg "BadHouse" CB) (hsb : subIn K CB CB = true) (N : FnX P w K mg base 1 "check_text" ["text"] (sp_check_text CT)) (NO : FnX P w K mg base 1 "number_of" ["word"] (sp_num CT)) (HM : MkX P w K mg base 3 "House" CH ["self", "sizes", "tap"] (sp_House2 CH CB)) :
    FnOk P w K mg base (CX1 P w) 5 f fd ["text"] (sp_house_of CH CT) := by
  refine F.okX sc_house_of (fun vs H Q E h => ?_) (fun cdv A outer s H vs Q E hr h => ?_)
  · obtain ⟨x, rfl, _⟩ := h
    rfl
  · obtain ⟨x, rfl, hx, k1, k2⟩ := h
    have nd := sc_house_of.nd
    have hr1 : Room 1 _ := hr.mono (by decide)
    have hu := hr.u20
    have hz : x.length ≤ sizeLine := by rw [sizeLine_eq]; omega
    refine ⟨_, pss_cons (ps_expr (pe_fnX bdX xeX N hr1 (pa_cons (pv 0) pa_nil)))
      (pss_cons (ps_set (i := 1) nd rfl (Or.inl rfl) (pe_split (pv 0) pe_str))
      (pss_cons (ps_set (i := 2) nd rfl (Or.inl rfl) (pe_cmpR op_eq (pe_ix ix_list (pv 1) (pe_un un_neg pe_int) (by intro _ _; rfl)) pe_str (nomark _)))
      (pss_cons (ps_if (pt_val (pv 2)) (pss_one (ps_expr (pe_pop (pv 1)))) pss_nil)
      (pss_cons (ps_if (pt_cmpR (op_neD hu) (pe_slice sl_list (pv 1) po_none (po_some pe_int)) (pe_lst (pa_cons pe_str pa_nil)) (nomark _)) (pss_one (ps_raise bdX xeX rfl X)) pss_nil)
      (pss_cons (ps_lcX (i := 3) bdX xeX sc_house_of [] nd rfl rfl (pi_list (pe_slice sl_list (pv 1) (po_some pe_int) po_none)) (fun cl C s H fp Ev hp => ⟨pif_nil, pe_fnC hp NO hr1 (pa_cons (pv 0) pa_nil)⟩))
      (pss_one (ps_try_raise bdX xeX (psx_ret (px_mk HM hr fun xe => pa_cons (pv 3) (pa_cons (pv 2) pa_nil))) XB X))))))), ?_⟩
    refine ⟨_, rfl, .str x, "str", rfl, .str x, .inl ⟨rfl, ?_⟩⟩
    have sl : (J.wds x).length ≤ x.length + 2 := PyProof.Rows.split_le x " "
    refine ⟨_, rfl, rfl, x, " ", rfl, rfl, by decide +kernel, hz, (by show (J.wds x).length ≤ _; rw [sizeLine_eq]; omega), fun l nl => ?_⟩
    obtain ⟨z, hzl, hzt⟩ := wds_last x
    refine ⟨_, rfl, _, rfl, l, _, -1, _, rfl, rfl, SqL.of upd_same, at_last hzl, rfl, ?_⟩
    rw [dec_strs, ← hzt]
    have same1 : ∀ o, Same H (upd H l o) := fun o => Same.new nl
    suffices rest : ∀ H1, Same H H1 → H1 l = some (.lst ((J.wd x).map V.str)) → tSeq
            (tIfS
              (tTest
                (tOp
                  (rNeD (cxX P w K mg base ["text", "words", "tap", "sizes"] "house_of" (defScope s_house_of) f cdv A outer s H E))
                  (tSl (rSlL K) (tVar 1) tNoPart (tPart (tC (V.int 1))))
                  (tLst (tCons (tC (V.str "jugs")) tNil))))
              (fun x x_1 H => E (Value.ref CT) none H) tNext)
            (tSeq
              (tAsg
                (tLC (iList K (tSl (rSlL K) (tVar 1) (tPart (tC (V.int 1))) tNoPart)) [] tYes (tCall (sp_num CT) [] E (tCons (tVar 0) tNil)))
                (gName 3))
              fun D' σ H_1 =>
              tCons (tVar 3) (tCons (tVar 2) tNil) σ H_1 fun vs H1 =>
                ∀ (x dx : Addr), H1 x = none → H1 dx = none → dx ≠ x →
                        sp_House2 CH CB (V.ref x :: vs) (upd (upd H1 dx (HO.own x)) x (HO.ins CH dx []))
                          (fun v H2 => v = V.non ∧ D'.rt (V.ref x) H2) fun cv o H' =>
                          ∃ C, cv = Value.ref C ∧ o = none ∧ PySem.W.excIn K C bmV "ValueError.__new__" = true ∧ subIn K C CB = true ∧ ∀ (x : Addr), E (Value.ref CT) (some x) H')
              { nx := fun x H' => Q V.non H', rt := Q } [some (.str x), some (.ref l), some (.bl (J.tapW x)), none] H1 by
      refine ⟨_, rfl, ?_⟩
      cases ht : J.tapW x with
      | false =>
        refine ⟨_, rfl, iteF ?_⟩
        rw [ht] at rest
        refine rest _ (same1 _) ?_
        unfold J.wd
        rw [ht, if_neg (by decide)]
        exact upd_same
      | true =>
        refine ⟨_, rfl, iteT ⟨_, rfl, .inl ⟨rfl, _, SqL.of upd_same⟩, l, _, .str z, rfl, rfl, upd_same, ?_, ?_⟩⟩
        · rw [List.length_map, List.getElem?_map, ← List.getLast?_eq_getElem?]
          show ((J.wds x).getLast?).map V.str = _
          rw [hzl]; rfl
        · rw [ht] at rest
          refine rest _ (fun c o e => ?_) ?_
          · have : c ≠ l := fun z => by rw [z, nl] at e; cases e
            rw [upd_ne this, upd_ne this]; exact e
          · unfold J.wd
            rw [ht, if_pos rfl, upd_same, ← List.map_dropLast]
            rfl
    intro H1 s1 e1
    refine ⟨_, rfl, _, rfl, l, _, rfl, SqL.of e1, fun p np => ⟨(by show 1 ≤ sizeLine; decide), fun q nq => ?_⟩⟩
    have pq : p ≠ q := fun z => by rw [← z, upd_same] at nq; cases nq
    have c1 : cutV ((J.wd x).map V.str) none (some 1) = ((J.wd x).take 1).map V.str := by rw [List.map_take]; exact cut_take 1
    have s2 : Same H1 (upd (upd H1 p (.lst (cutV ((J.wd x).map V.str) none (some 1)))) q (.lst [V.str "jugs"])) := (Same.new np).lay nq
    refine ⟨_, rcLS (s := (J.wd x).take 1) (t := [J.jugs]) (by rw [upd_ne pq, upd_same, c1]) upd_same, _, rfl, ?_⟩
    by_cases hj : (J.wd x).take 1 = [J.jugs]
    case neg =>
      rw [decide_eq_false hj]
      refine iteT (k2 ?_ _ _ (s1.trans s2))
      unfold J.hsOk
      rw [decide_eq_false hj]; rfl
    rw [decide_eq_true hj]
    refine iteF ?_
    have e2 := s2 _ _ e1
    have s3 := s1.trans s2
    generalize upd (upd H1 p (.lst (cutV ((J.wd x).map V.str) none (some 1)))) q (.lst [V.str "jugs"]) = H2 at e2 s3 ⊢
    have c2 : cutV ((J.wd x).map V.str) (some 1) none = ((J.wd x).drop 1).map V.str := by rw [List.map_drop]; exact cut_drop 1
    refine ⟨_, rfl, _, rfl, l, _, rfl, SqL.of e2, fun r nr => ⟨r, rfl, ⟨_, SqL.of upd_same⟩, ?_⟩⟩
    rw [c2]
    have wl := wd_le x
    have dl : ((J.wd x).drop 1).length ≤ x.length + 2 := by rw [List.length_drop]; omega
    have s4 : Same H (upd H2 r (.lst (((J.wd x).drop 1).map V.str))) := s3.lay nr
    refine lc_list (K := K) (a := r) (xs := ((J.wd x).drop 1).map V.str) (fun i ys H' => H' = upd H2 r (.lst (((J.wd x).drop 1).map V.str)) ∧ ys = (((J.wd x).drop 1).take i).map (fun w => V.int (J.numW w)) ∧ ∀ w ∈ ((J.wd x).drop 1).take i, J.okW w = true)
      ⟨rfl, rfl, fun w h => (by simp at h)⟩ (by rw [List.length_map, sizeLine_eq]; omega) (fun i ys H' ⟨_, e, _⟩ => by rw [e, List.length_map, List.length_take]; omega) (fun i ys H' _ ⟨e, _⟩ => by subst e; exact SqL.of upd_same) ?_ ?_
    · rintro i v ys H' hv ⟨rfl, rfl, ih⟩
      rw [List.getElem?_map] at hv
      obtain ⟨u, hu', rfl⟩ : ∃ u, ((J.wd x).drop 1)[i]? = some u ∧ v = V.str u := by
        cases e : ((J.wd x).drop 1)[i]? with
        | none => rw [e] at hv; cases hv
        | some u => rw [e] at hv; cases hv; exact ⟨u, rfl, rfl⟩
      have hm := List.mem_of_getElem? hu'
      refine tYes_of ⟨_, rfl, u, rfl, Nat.le_trans (wd_short (List.mem_of_mem_drop hm)) hx, fun ho => ⟨rfl, ?_, fun y hy => ?_⟩, fun hb => k2 ?_ _ _ s4⟩
      · rw [List.take_add_one, hu', List.map_append]; rfl
      · rw [List.take_add_one, hu', List.mem_append] at hy
        rcases hy with hy | hy
        · exact ih y hy
        · have : y = u := by simpa using hy
          subst this; exact ho
      · unfold J.hsOk
        have : ((J.wd x).drop 1).all J.okW = false := by
          rw [List.all_eq_false]
          exact ⟨u, hm, by rw [hb]; decide⟩
        rw [this, Bool.and_false, Bool.false_and]
    · rintro ys H' ⟨rfl, rfl, ih⟩ d nd'
      have all : ((J.wd x).drop 1).all J.okW = true := by
        rw [List.all_eq_true]
        intro y hy
        refine ih y ?_
        rw [List.length_map, List.take_of_length_le (Nat.le_refl _)]; exact hy
      have eys : (((J.wd x).drop 1).take (((J.wd x).drop 1).map V.str).length).map (fun w => V.int (J.numW w)) = (J.szW x).map V.int := by
        rw [List.length_map, List.take_of_length_le (Nat.le_refl _)]
        unfold J.szW
        rw [List.map_map]; rfl
      rw [eys] at *
      have s5 : Same H (upd (upd H2 r (.lst (((J.wd x).drop 1).map V.str))) d (.lst ((J.szW x).map V.int))) := s4.lay nd'
      have e5 : (upd (upd H2 r (.lst (((J.wd x).drop 1).map V.str))) d (.lst ((J.szW x).map V.int))) d = some (.lst ((J.szW x).map V.int)) := upd_same
      generalize upd (upd H2 r (.lst (((J.wd x).drop 1).map V.str))) d (.lst ((J.szW x).map V.int)) = H5 at s5 e5 ⊢
      have hok : J.hsOk x = J.hzB (J.szW x) := by
        unfold J.hsOk
        rw [decide_eq_true hj, all]; simp
      refine ⟨_, rfl, _, rfl, fun o dx no ndx ne => ?_⟩
      have s6 : Same H5 (upd (upd H5 dx (.own o)) o (.ins CH dx [])) := (Same.new ndx).lay (by rw [upd_ne (Ne.symm ne)]; exact no)
      have keep : ∀ H', (∀ c u, (upd (upd H5 dx (.own o)) o (.ins CH dx [])) c = some u → c ≠ o → H' c = some u) → Same H H' := fun H' hk c u e => by
        have e6 := s5 _ _ e
        refine hk c u (s6 _ _ e6) fun z => ?_
        rw [z, no] at e6; cases e6
      cases hh : J.hzB (J.szW x) with
      | true =>
        obtain ⟨a1, a2, a3, a4⟩ := J.hz_all hh
        exact .inl ⟨o, dx, d, J.szW x, J.tapW x, rfl, upd_same, s6 _ _ e5, ⟨a1, a2, a3, a4⟩, fun H' hk hh' => ⟨rfl, k1 (hok.trans hh) o H' (keep H' hk) hh'⟩⟩
      | false =>
        exact .inr ⟨o, dx, .ref d, .bl (J.tapW x), rfl, upd_same, .inl (bad_sz (s6 _ _ e5) hh), fun H' hk => ⟨CB, rfl, rfl, XB.ex, hsb, fun y => k2 (hok.trans hh) _ H' (keep H' hk)⟩⟩
end
end Jug

namespace Jug
open PySem L2
/-! ### texts: moves -/
def mvIn (s : Str) : List Nat → Option J.Mv
  | [a] => if a ≤ 3 then (if s = "fill" then some (.fill a) else if s = "empty" then some (.emp a) else none) else none
  | [a, b] => if s = "pour" ∧ a ≤ 3 ∧ b ≤ 3 ∧ a ≠ b then some (.pour a b) else none
  | _ => none
theorem mv_in {p s : Str} {ws : List Str} (h : J.wds p = s :: ws) : J.mvOf p = if ws.all J.okW = true then mvIn s (ws.map J.numW) else none := by
  unfold J.mvOf
  rw [h]
  match ws with
  | [] => rfl
  | [a] =>
    show (if (J.okW a && decide (J.numW a ≤ 3)) = true then _ else _) = (if (J.okW a && true) = true then (if J.numW a ≤ 3 then _ else _) else _)
    cases J.okW a <;> by_cases c : J.numW a ≤ 3 <;> simp [c]
  | [a, b] =>
    show (if (decide (s = "pour") && J.okW a && J.okW b && decide (J.numW a ≤ 3) && decide (J.numW b ≤ 3) && decide (J.numW a ≠ J.numW b)) = true then _ else _) = (if (J.okW a && (J.okW b && true)) = true then (if s = "pour" ∧ J.numW a ≤ 3 ∧ J.numW b ≤ 3 ∧ J.numW a ≠ J.numW b then _ else _) else _)
    cases J.okW a <;> cases J.okW b <;> simp [and_assoc]
  | _ :: _ :: _ :: _ => simp [mvIn]
def tCut (t u : TS) : TS := fun D σ H => ∃ R : St → Hp → Prop, t { D with nx := R } σ H ∧ ∀ σ' H', R σ' H' → u D σ' H'
theorem pss_cut {X : Cx} {st : Stmt} {rest : List Stmt} {t u : TS} (h1 : PS X st t) (h2 : PSs X rest u) : PSs X (st :: rest) (tCut t u) := by
  intro pins s σ H D I ⟨R, h, hR⟩
  refine wpAny_execs_cons (thn (h1 pins s σ H { D with nx := R } I h) fun f s1 q => ?_)
  cases f with
  | next => obtain ⟨σ', H', I', q'⟩ := q; exact h2 pins s1 σ' H' D I' (hR σ' H' q')
  | ret v => exact q
  | brk => exact q
  | cont => exact q
theorem PE.weak {X : Cx} {e : Expr} {t t' : TE} (h : PE X e t) (i : ∀ σ H Q, t' σ H Q → t σ H Q) : PE X e t' := fun pins s σ H Q I hq => h pins s σ H Q I (i _ _ _ hq)
theorem PSs.weak {X : Cx} {e : List Stmt} {t t' : TS} (h : PSs X e t) (i : ∀ D σ H, t' D σ H → t D σ H) : PSs X e t' := fun pins s σ H Q I hq => h pins s σ H Q I (i _ _ _ hq)
theorem PT.weak {X : Cx} {e : Expr} {t t' : TT} (h : PT X e t) (i : ∀ σ H Q, t' σ H Q → t σ H Q) : PT X e t' := fun pins s σ H Q I hq => h pins s σ H Q I (i _ _ _ hq)
/-- the sort is t, the list has n items -/
def tSW (K : PySem.W.Frag) (t : Str) (n : Nat) : TT := fun σ H Q => ∃ s l ys, σ[0]? = some (some (.str s)) ∧ σ[1]? = some (some (.ref l)) ∧ SqL K H l ys ∧ Q (decide (s = t) && decide (ys.length = n)) H
theorem tSW.of {K : PySem.W.Frag} {t : Str} {n : Nat} {σ : St} {H : Hp} {Q : Bool → Hp → Prop} (h : tSW K t n σ H Q) :
    tAnd (tTest (tOp rEq (tVar 0) (tC (.str t)))) (tTest (tOp rEq (tCB (fun xs H Q => ∃ p ys, xs = [.ref p] ∧ (SqL K H p ys ∨ SqT K H p ys) ∧ Q (.int ys.length) H) (tCons (tVar 1) tNil)) (tC (.int n)))) σ H Q := by
  obtain ⟨s, l, ys, h1, h2, h3, q⟩ := h
  refine ⟨_, h1, rfl, _, rfl, ?_⟩
  rw [dec_strs]
  by_cases c : s = t
  · rw [decide_eq_true c]
    refine iteT ⟨_, h2, l, ys, rfl, .inl h3, rfl, _, rfl, ?_⟩
    rw [decide_eq_true c, Bool.true_and] at q
    have e : decide (V.int (ys.length : Int) = V.int (n : Int)) = decide (ys.length = n) := by
      rw [Bool.eq_iff_iff]
      simp only [decide_eq_true_eq, V.int.injEq]
      omega
    rw [e]
    exact q
  · rw [decide_eq_false c]
    rw [decide_eq_false c, Bool.false_and] at q
    exact iteF q
section
variable {P : Program} {w : World} {K : PySem.W.Frag} {mg : Str → Option Value} {base : Heap} {CH CT CM : Addr} {Z : Cz}
def sp_Pour2 (Z : Cz) (CM : Addr) : Sp := fun vs H Q E => sp_Pour_init Z vs H Q E ∨ sp_Pour_initX CM vs H Q E
def sp_jug2 (C CM : Addr) : Sp := fun vs H Q E => sp_jug_init C vs H Q E ∨ sp_jug_initX CM vs H Q E
def nV (n : Nat) : V := .int (n : Int)
def sp_miw (Z : Cz) (CM CT : Addr) : Sp := fun vs H Q E => ∃ s l ns, vs = [.str s, .ref l] ∧ H l = some (.lst (ns.map nV)) ∧ ns.length ≤ 20000 ∧ (∀ m, mvIn s ns = some m → ∀ q H', Same H H' → MvAt Z H' q m → Q (.ref q) H') ∧ (mvIn s ns = none → ∀ H', Same H H' → E (.ref CM) none H' ∧ E (.ref CT) none H')
theorem ok_miw {f : Addr} {fd : FuncData} (F : Fun K "move_in_words" "move_in_words" s_move_in_words f fd) (B : Bt mg) (X : XC K mg "BadText" CT) (MP : MkX P w K mg base 4 "Pour" Z.P ["self", "one", "other"] (sp_Pour2 Z CM)) (MF : MkX P w K mg base 4 "Fill" Z.F ["self", "jug"] (sp_jug2 Z.F CM)) (ME : MkX P w K mg base 4 "Empty" Z.E ["self", "jug"] (sp_jug2 Z.E CM)) :
    FnOk P w K mg base (CX1 P w) 6 f fd ["sort", "jugs"] (sp_miw Z CM CT) := by
  refine F.okX sc_move_in_words (fun vs H Q E h => ?_) (fun cdv A outer s H vs Q E hr h => ?_)
  · obtain ⟨s, l, ns, rfl, _⟩ := h
    rfl
  · obtain ⟨s', l, ns, rfl, hl, hn, k1, k2⟩ := h
    refine ⟨_, pss_cons (ps_if (PT.weak (t' := tSW K "pour" 2) (PW.pt (pw_and (pt_cmpR op_eq (pv 0) pe_str (nomark _)) (pw_and1 (pt_cmpR op_eq (pe_callB call_len_seq (by rfl) B.len PySem.boot_len (pa_cons (pv 1) pa_nil)) pe_int (nomark _))))) fun _ _ _ => tSW.of) (pss_one (ps_ret (pe_mkX bdX xeX MP hr (pa_cons (pe_ix ix_list (pv 1) pe_int (by intro _ _; rfl)) (pa_cons (pe_ix ix_list (pv 1) pe_int (by intro _ _; rfl)) pa_nil))))) pss_nil)
      (pss_cons (ps_if (PT.weak (t' := tSW K "fill" 1) (PW.pt (pw_and (pt_cmpR op_eq (pv 0) pe_str (nomark _)) (pw_and1 (pt_cmpR op_eq (pe_callB call_len_seq (by rfl) B.len PySem.boot_len (pa_cons (pv 1) pa_nil)) pe_int (nomark _))))) fun _ _ _ => tSW.of) (pss_one (ps_ret (pe_mkX bdX xeX MF hr (pa_cons (pe_ix ix_list (pv 1) pe_int (by intro _ _; rfl)) pa_nil)))) pss_nil)
      (pss_cons (ps_if (PT.weak (t' := tSW K "empty" 1) (PW.pt (pw_and (pt_cmpR op_eq (pv 0) pe_str (nomark _)) (pw_and1 (pt_cmpR op_eq (pe_callB call_len_seq (by rfl) B.len PySem.boot_len (pa_cons (pv 1) pa_nil)) pe_int (nomark _))))) fun _ _ _ => tSW.of) (pss_one (ps_ret (pe_mkX bdX xeX ME hr (pa_cons (pe_ix ix_list (pv 1) pe_int (by intro _ _; rfl)) pa_nil)))) pss_nil)
      (pss_one (ps_raise bdX xeX rfl X)))), ?_⟩
    have kv : ∀ {H' : Hp} (n : Nat), Kd H' (nV n) "int" := fun n => .int n
    have nb : ∀ n : Nat, ¬ n ≤ 3 → numB (nV n) 0 3 = false := fun n h => by
      show (decide ((0 : Int) ≤ (n : Int)) && decide ((n : Int) ≤ 3)) = false
      rw [decide_eq_false (by omega : ¬ (n : Int) ≤ 3), Bool.and_false]
    have lv : (ns.map nV).length = ns.length := List.length_map ..
    -- a new jug's move
    have jug : ∀ (C : Addr) (a : Nat) (mk : J.Mv), Z.cl mk = C → fsOf mk = jF a → ns = [a] → (a ≤ 3 → mvIn s' ns = some mk) → (¬ a ≤ 3 → mvIn s' ns = none) → ∀ x dx, H x = none → H dx = none → dx ≠ x →
        sp_jug2 C CM [.ref x, nV a] (upd (upd H dx (.own x)) x (.ins C dx [])) (fun v H2 => v = .non ∧ Q (.ref x) H2) E := fun C a mk hC hf hns g1 g2 x dx nx ndx ne => by
      have keep : ∀ H', (∀ c u, (upd (upd H dx (.own x)) x (.ins C dx [])) c = some u → c ≠ x → H' c = some u) → Same H H' := fun H' hk c u e => by
        have c1 : c ≠ x := fun z => by rw [z, nx] at e; cases e
        have c2 : c ≠ dx := fun z => by rw [z, ndx] at e; cases e
        exact hk c u (by rw [upd_ne c1, upd_ne c2]; exact e) c1
      by_cases ha : a ≤ 3
      · exact .inl ⟨x, dx, a, rfl, upd_same, ha, fun H' hk e => ⟨rfl, k1 mk (g1 ha) x H' (keep H' hk) ⟨dx, by rw [hC, hf]; exact e⟩⟩⟩
      · refine .inr ⟨x, nV a, "int", rfl, kv a, nb a ha, fun H' sm => ?_⟩
        exact (k2 (g2 ha) H' (keep H' fun c u e _ => sm c u e)).1
    have no : ∀ {t : Str} {n : Nat}, ¬ (s' = t ∧ ns.length = n) → (decide (s' = t) && decide ((ns.map nV).length = n)) = false := fun {t n} h => by
      rw [Bool.eq_false_iff]
      intro z
      simp only [Bool.and_eq_true, decide_eq_true_eq, lv] at z
      exact h z
    have yes : ∀ {t : Str} {n : Nat}, s' = t → ns.length = n → (decide (s' = t) && decide ((ns.map nV).length = n)) = true := fun {t n} h h' => by
      rw [decide_eq_true h, decide_eq_true (by rw [lv]; exact h')]; rfl
    refine ⟨s', l, _, rfl, rfl, SqL.of hl, ?_⟩
    by_cases c1 : s' = "pour" ∧ ns.length = 2
    · rw [yes c1.1 c1.2]
      refine iteT ?_
      obtain ⟨a, b, rfl⟩ : ∃ a b, ns = [a, b] := by
        match ns, c1.2 with
        | [a, b], _ => exact ⟨a, b, rfl⟩
      refine ⟨_, rfl, l, _, 0, _, rfl, rfl, SqL.of hl, rfl, _, rfl, l, _, 1, _, rfl, rfl, SqL.of hl, rfl, fun x dx nx ndx ne => ?_⟩
      have keep : ∀ H', (∀ c u, (upd (upd H dx (.own x)) x (.ins Z.P dx [])) c = some u → c ≠ x → H' c = some u) → Same H H' := fun H' hk c u e => by
        have c1 : c ≠ x := fun z => by rw [z, nx] at e; cases e
        have c2 : c ≠ dx := fun z => by rw [z, ndx] at e; cases e
        exact hk c u (by rw [upd_ne c1, upd_ne c2]; exact e) c1
      by_cases g : a ≤ 3 ∧ b ≤ 3 ∧ a ≠ b
      · refine .inl ⟨x, dx, a, b, rfl, upd_same, g.1, g.2.1, g.2.2, fun H' hk e => ⟨rfl, k1 (.pour a b) ?_ x H' (keep H' hk) ⟨dx, e⟩⟩⟩
        show (if s' = "pour" ∧ a ≤ 3 ∧ b ≤ 3 ∧ a ≠ b then _ else _) = _
        rw [if_pos ⟨c1.1, g⟩]
      · have hn' : mvIn s' [a, b] = none := by
          show (if s' = "pour" ∧ a ≤ 3 ∧ b ≤ 3 ∧ a ≠ b then _ else _) = _
          rw [if_neg fun z => g z.2]
        refine .inr ⟨x, nV a, nV b, "int", "int", rfl, kv a, kv b, ?_, fun H' sm => (k2 hn' H' (keep H' fun c u e _ => sm c u e)).1⟩
        by_cases ha : a ≤ 3
        · refine .inr ⟨a, rfl, ha, ?_⟩
          by_cases hb : b ≤ 3
          · refine .inr ?_
            have : a = b := Classical.byContradiction fun z => g ⟨ha, hb, z⟩
            rw [this]; rfl
          · exact .inl (nb b hb)
        · exact .inl (nb a ha)
    rw [no c1]
    refine iteF ⟨s', l, _, rfl, rfl, SqL.of hl, ?_⟩
    by_cases c2 : s' = "fill" ∧ ns.length = 1
    · rw [yes c2.1 c2.2]
      refine iteT ?_
      obtain ⟨a, rfl⟩ : ∃ a, ns = [a] := by
        match ns, c2.2 with
        | [a], _ => exact ⟨a, rfl⟩
      refine ⟨_, rfl, l, _, 0, _, rfl, rfl, SqL.of hl, rfl, fun x dx nx ndx ne => ?_⟩
      refine jug Z.F a (.fill a) rfl rfl rfl (fun ha => ?_) (fun ha => ?_) x dx nx ndx ne
      · show (if a ≤ 3 then (if s' = "fill" then _ else _) else _) = _
        rw [if_pos ha, if_pos c2.1]
      · show (if a ≤ 3 then _ else _) = _
        rw [if_neg ha]
    rw [no c2]
    refine iteF ⟨s', l, _, rfl, rfl, SqL.of hl, ?_⟩
    by_cases c3 : s' = "empty" ∧ ns.length = 1
    · rw [yes c3.1 c3.2]
      refine iteT ?_
      obtain ⟨a, rfl⟩ : ∃ a, ns = [a] := by
        match ns, c3.2 with
        | [a], _ => exact ⟨a, rfl⟩
      refine ⟨_, rfl, l, _, 0, _, rfl, rfl, SqL.of hl, rfl, fun x dx nx ndx ne => ?_⟩
      refine jug Z.E a (.emp a) rfl rfl rfl (fun ha => ?_) (fun ha => ?_) x dx nx ndx ne
      · show (if a ≤ 3 then (if s' = "fill" then _ else (if s' = "empty" then _ else _)) else _) = _
        rw [if_pos ha, if_neg (by rw [c3.1]; decide +kernel), if_pos c3.1]
      · show (if a ≤ 3 then _ else _) = _
        rw [if_neg ha]
    rw [no c3]
    refine iteF (k2 ?_ H (Same.refl _)).2
    match ns, c1, c2, c3 with
    | [], _, _, _ => rfl
    | [a], _, c2, c3 =>
      show (if a ≤ 3 then (if s' = "fill" then _ else (if s' = "empty" then _ else _)) else _) = _
      rw [if_neg (fun z => c2 ⟨z, rfl⟩), if_neg (fun z => c3 ⟨z, rfl⟩)]
      split <;> rfl
    | [a, b], c1, _, _ =>
      show (if s' = "pour" ∧ a ≤ 3 ∧ b ≤ 3 ∧ a ≠ b then _ else _) = _
      rw [if_neg fun z => c1 ⟨z.1, rfl⟩]
    | _ :: _ :: _ :: _, _, _, _ => rfl
end
end Jug

namespace Jug
open PySem L2
/-! ### texts: a move, a routine -/
theorem at_0 {α : Type} {a : α} {l : List α} : atI (a :: l) 0 = some a := by
  unfold atI
  rw [show (0 : Int) = ((0 : Nat) : Int) from rfl, ixN_of (by simp)]
  rfl
theorem mv_good {p : Str} {m : J.Mv} (h : J.mvOf p = some m) : J.mvGood m := by
  unfold J.mvOf at h
  split at h
  case h_1 s a e =>
    by_cases c : (J.okW a && decide (J.numW a ≤ 3)) = true
    · rw [if_pos c] at h
      simp only [Bool.and_eq_true, decide_eq_true_eq] at c
      by_cases c1 : s = "fill"
      · rw [if_pos c1] at h
        cases h
        show J.numW a < 4
        omega
      · rw [if_neg c1] at h
        by_cases c2 : s = "empty"
        · rw [if_pos c2] at h
          cases h
          show J.numW a < 4
          omega
        · rw [if_neg c2] at h; cases h
    · rw [if_neg c] at h; cases h
  case h_2 s a b e =>
    by_cases c : (decide (s = "pour") && J.okW a && J.okW b && decide (J.numW a ≤ 3) && decide (J.numW b ≤ 3) && decide (J.numW a ≠ J.numW b)) = true
    · rw [if_pos c] at h
      cases h
      simp only [Bool.and_eq_true, decide_eq_true_eq] at c
      exact ⟨by omega, by omega, c.2⟩
    · rw [if_neg c] at h; cases h
  case h_3 => cases h
section
variable {P : Program} {w : World} {K : PySem.W.Frag} {mg : Str → Option Value} {base : Heap} {CH CT CM : Addr} {Z : Cz}
def sp_move_of (Z : Cz) (CT : Addr) : Sp := fun vs H Q E => ∃ x, vs = [.str x] ∧ x.length ≤ 10000 ∧ (∀ m, J.mvOf x = some m → ∀ q H', Same H H' → MvAt Z H' q m → Q (.ref q) H') ∧ (J.mvOf x = none → ∀ o H', Same H H' → E (.ref CT) o H')
theorem ok_move_of {f : Addr} {fd : FuncData} (F : Fun K "move_of" "move_of" s_move_of f fd) (X : XC K mg "BadText" CT) (XM : XC K mg "BadMove" CM) (hs1 : subIn K CM CM = true) (hs2 : subIn K CT CM = false) (NO : FnX P w K mg base 1 "number_of" ["word"] (sp_num CT)) (MI : FnX P w K mg base 6 "move_in_words" ["sort", "jugs"] (sp_miw Z CM CT)) :
    FnOk P w K mg base (CX1 P w) 7 f fd ["text"] (sp_move_of Z CT) := by
  refine F.okX sc_move_of (fun vs H Q E h => ?_) (fun cdv A outer s H vs Q E hr h => ?_)
  · obtain ⟨x, rfl, _⟩ := h
    rfl
  · obtain ⟨x, rfl, hx, k1, k2⟩ := h
    have nd := sc_move_of.nd
    have hr1 : Room 1 _ := hr.mono (by decide)
    have hz : x.length ≤ sizeLine := by rw [sizeLine_eq]; omega
    refine ⟨_, pss_cons (ps_set (i := 1) nd rfl (Or.inl rfl) (pe_split (pv 0) pe_str))
      (pss_cons (ps_lcX (i := 2) bdX xeX sc_move_of [] nd rfl rfl (pi_list (pe_slice sl_list (pv 1) (po_some pe_int) po_none)) (fun cl C s H fp Ev hp => ⟨pif_nil, pe_fnC hp NO hr1 (pa_cons (pv 0) pa_nil)⟩))
      (pss_one (ps_try_raise2 bdX xeX (psx_ret (px_fn MI hr fun xe => pa_cons (pe_ix (ix_listK K) (pv 1) pe_int (by intro _ _; rfl)) (pa_cons (pv 2) pa_nil))) XM X))), ?_⟩
    have sl : (J.wds x).length ≤ x.length + 2 := PyProof.Rows.split_le x " "
    have sp' : 1 ≤ (J.wds x).length := PyProof.Rows.split_pos x " "
    refine ⟨_, rfl, rfl, x, " ", rfl, rfl, by decide +kernel, hz, (by show (J.wds x).length ≤ _; rw [sizeLine_eq]; omega), fun l nl => ?_⟩
    have e1 : (upd H l (.lst ((J.wds x).map V.str))) l = some (.lst ((J.wds x).map V.str)) := upd_same
    have s1 : Same H (upd H l (.lst ((J.wds x).map V.str))) := Same.new nl
    change H l = none at nl
    have ew : Txt.split x " " = J.wds x := rfl
    rw [ew]
    obtain ⟨sd, ws, hw⟩ : ∃ sd ws, J.wds x = sd :: ws := by
      match h : J.wds x, sp' with
      | a :: b, _ => exact ⟨a, b, rfl⟩
    have hmv := mv_in hw
    have c2 : cutV ((J.wds x).map V.str) (some 1) none = ws.map V.str := by
      rw [show (some (1 : Int)) = some ((1 : Nat) : Int) from rfl, cut_drop 1, hw]; rfl
    rw [hw] at sl
    have wl : ws.length ≤ x.length + 1 := by simp at sl; omega
    refine ⟨_, rfl, _, rfl, l, _, rfl, SqL.of e1, fun r nr => ⟨r, rfl, ⟨_, SqL.of upd_same⟩, ?_⟩⟩
    generalize upd H l (.lst ((J.wds x).map V.str)) = H1 at e1 s1 nr ⊢
    rw [c2]
    have s4 : Same H (upd H1 r (.lst (ws.map V.str))) := s1.lay nr
    have e4 : (upd H1 r (.lst (ws.map V.str))) l = some (.lst ((J.wds x).map V.str)) := (Same.new nr) _ _ e1
    refine lc_list (K := K) (a := r) (xs := ws.map V.str) (fun i ys H' => H' = upd H1 r (.lst (ws.map V.str)) ∧ ys = (ws.take i).map (fun w => nV (J.numW w)) ∧ ∀ w ∈ ws.take i, J.okW w = true)
      ⟨rfl, rfl, fun w h => (by simp at h)⟩ (by rw [List.length_map, sizeLine_eq]; omega) (fun i ys H' ⟨_, e, _⟩ => by rw [e, List.length_map, List.length_take]; omega) (fun i ys H' _ ⟨e, _⟩ => by subst e; exact SqL.of upd_same) ?_ ?_
    · rintro i v ys H' hv ⟨rfl, rfl, ih⟩
      rw [List.getElem?_map] at hv
      obtain ⟨u, hu', rfl⟩ : ∃ u, ws[i]? = some u ∧ v = V.str u := by
        cases e : ws[i]? with
        | none => rw [e] at hv; cases hv
        | some u => rw [e] at hv; cases hv; exact ⟨u, rfl, rfl⟩
      have hm := List.mem_of_getElem? hu'
      have hlen : u.length ≤ x.length := PyProof.Rows.part_short (y := " ") (by show u ∈ J.wds x; rw [hw]; exact List.mem_cons_of_mem _ hm)
      refine tYes_of ⟨_, rfl, u, rfl, Nat.le_trans hlen hx, fun ho => ⟨rfl, ?_, fun y hy => ?_⟩, fun hb => k2 ?_ _ _ s4⟩
      · rw [List.take_add_one, hu', List.map_append]; rfl
      · rw [List.take_add_one, hu', List.mem_append] at hy
        rcases hy with hy | hy
        · exact ih y hy
        · have : y = u := by simpa using hy
          subst this; exact ho
      · rw [hmv, if_neg]
        intro z
        have := List.all_eq_true.mp z u hm
        rw [hb] at this; cases this
    · rintro ys H' ⟨rfl, rfl, ih⟩ d nd'
      have all : ws.all J.okW = true := by
        rw [List.all_eq_true]
        intro y hy
        refine ih y ?_
        rw [List.length_map, List.take_of_length_le (Nat.le_refl _)]; exact hy
      have eys : (ws.take (ws.map V.str).length).map (fun w => nV (J.numW w)) = (ws.map J.numW).map nV := by
        rw [List.length_map, List.take_of_length_le (Nat.le_refl _), List.map_map]; rfl
      rw [eys] at *
      rw [if_pos all] at hmv
      have s5 : Same (upd H1 r (.lst (ws.map V.str))) (upd (upd H1 r (.lst (ws.map V.str))) d (.lst ((ws.map J.numW).map nV))) := Same.new nd'
      refine ⟨_, rfl, l, _, 0, .str sd, rfl, rfl, SqL.of (s5 _ _ e4), (by rw [hw]; exact at_0), _, rfl, ?_⟩
      refine ⟨sd, d, ws.map J.numW, rfl, upd_same, by rw [List.length_map]; omega, fun m hm q H' sm mq => k1 m (hmv.trans hm) q H' ((s4.trans s5).trans sm) mq, fun hm H' sm => ?_⟩
      refine ⟨⟨CM, rfl, XM.ex, .inl ⟨rfl, hs1, fun y => k2 (hmv.trans hm) _ H' ((s4.trans s5).trans sm)⟩⟩, ⟨CT, rfl, X.ex, .inr ⟨hs2, k2 (hmv.trans hm) _ H' ((s4.trans s5).trans sm)⟩⟩⟩
/-- a routine: its moves, or a refusal -/
def sp_routine_of (Z : Cz) (CT : Addr) : Sp := fun vs H Q E => ∃ x, vs = [.str x] ∧ x.length ≤ 10000 ∧
  (J.rtOk x = true → ∀ l xs ms H', Same H H' → H l = none → H' l = some (.lst xs) → Paired (isM Z H') xs ms → ms.length ≤ x.length + 2 → (∀ m ∈ ms, J.mvGood m) → Txt.join "; " (ms.map J.mvT) = x → Q (.ref l) H') ∧ (J.rtOk x = false → ∀ o H', Same H H' → E (.ref CT) o H')
theorem ok_routine_of {f : Addr} {fd : FuncData} (F : Fun K "routine_of" "routine_of" s_routine_of f fd) (N : FnX P w K mg base 1 "check_text" ["text"] (sp_check_text CT)) (MO : FnX P w K mg base 7 "move_of" ["text"] (sp_move_of Z CT)) :
    FnOk P w K mg base (CX1 P w) 8 f fd ["text"] (sp_routine_of Z CT) := by
  refine F.okX sc_routine_of (fun vs H Q E h => ?_) (fun cdv A outer s H vs Q E hr h => ?_)
  · obtain ⟨x, rfl, _⟩ := h
    rfl
  · obtain ⟨x, rfl, hx, k1, k2⟩ := h
    have hr1 : Room 1 _ := hr.mono (by decide)
    have hz : x.length ≤ sizeLine := by rw [sizeLine_eq]; omega
    refine ⟨_, pss_cons (ps_expr (pe_fnX bdX xeX N hr1 (pa_cons (pv 0) pa_nil)))
      (pss_cons (ps_if (pt_cmpR op_eq (pv 0) pe_str (nomark _)) (pss_one (ps_ret (pe_lst pa_nil))) pss_nil)
      (pss_one (ps_ret (pe_lcX bdX xeX sc_routine_of [] (pi_list (pe_split (pv 0) pe_str)) (fun cl C s H fp Ev hp => ⟨pif_nil, pe_fnC hp MO hr (pa_cons (pv 0) pa_nil)⟩))))), ?_⟩
    refine ⟨_, rfl, .str x, "str", rfl, .str x, .inl ⟨rfl, ?_⟩⟩
    refine ⟨_, rfl, rfl, _, rfl, ?_⟩
    rw [dec_strs]
    by_cases h0 : x = ""
    · rw [decide_eq_true h0]
      refine iteT ⟨(by show 0 ≤ sizeLine; decide), fun l nl => ?_⟩
      refine k1 (by unfold J.rtOk; rw [decide_eq_true h0]; rfl) l [] [] _ (Same.new nl) nl upd_same .nil (Nat.zero_le _) (fun m h => by simp at h) (by rw [h0]; rfl)
    rw [decide_eq_false h0]
    refine iteF ?_
    have sl : (Txt.split x "; ").length ≤ x.length + 2 := PyProof.Rows.split_le x "; "
    refine ⟨_, rfl, rfl, x, "; ", rfl, rfl, by decide +kernel, hz, by rw [sizeLine_eq]; omega, fun r nr => ⟨r, rfl, ⟨_, SqL.of upd_same⟩, ?_⟩⟩
    have hrt : J.rtOk x = (Txt.split x "; ").all fun p => (J.mvOf p).isSome := by
      unfold J.rtOk
      rw [decide_eq_false h0, Bool.false_or]
    have short : ∀ p ∈ Txt.split x "; ", p.length ≤ x.length := fun p hp => PyProof.Rows.part_short hp
    have hj : ∀ ms : List J.Mv, (Txt.split x "; ").map J.mvOf = ms.map some → Txt.join "; " (ms.map J.mvT) = x := fun ms h => J.rt_rt h
    generalize hps : Txt.split x "; " = ps at sl hrt short hj ⊢
    have s1 : Same H (upd H r (.lst (ps.map V.str))) := Same.new nr
    refine lc_list (K := K) (a := r) (xs := ps.map V.str) (fun i ys H' => Same (upd H r (.lst (ps.map V.str))) H' ∧ ∃ ms, (ps.take i).map J.mvOf = ms.map some ∧ Paired (isM Z H') ys ms)
      ⟨Same.refl _, [], rfl, .nil⟩ (by rw [List.length_map, sizeLine_eq]; omega) (fun i ys H' ⟨_, ms, e, p⟩ => by
        have := congrArg List.length e
        rw [List.length_map, List.length_map, List.length_take] at this
        have := p.length
        omega) (fun i ys H' _ ⟨e, _⟩ => SqL.of (e _ _ upd_same)) ?_ ?_
    · rintro i v ys H' hv ⟨sm, ms, em, pm⟩
      rw [List.getElem?_map] at hv
      obtain ⟨u, hu', rfl⟩ : ∃ u, ps[i]? = some u ∧ v = V.str u := by
        cases e : ps[i]? with
        | none => rw [e] at hv; cases hv
        | some u => rw [e] at hv; cases hv; exact ⟨u, rfl, rfl⟩
      have hm := List.mem_of_getElem? hu'
      refine tYes_of ⟨_, rfl, u, rfl, Nat.le_trans (short u hm) hx, fun m ho q H2 s2 mq => ⟨sm.trans s2, ms ++ [m], ?_, ?_⟩, fun hb o H2 s2 => k2 ?_ _ _ (s1.trans (sm.trans s2))⟩
      · rw [List.take_add_one, hu', List.map_append, em, List.map_append]
        show _ ++ [J.mvOf u] = _
        rw [ho]; rfl
      · exact Paired.snocP (pm_fix pm (Fix.of s2)) ⟨q, rfl, mq⟩
      · rw [hrt, List.all_eq_false]
        exact ⟨u, hm, by rw [hb]; decide⟩
    · rintro ys H' ⟨sm, ms, em, pm⟩ d nd'
      rw [List.length_map, List.take_of_length_le (Nat.le_refl _)] at em
      have s3 : Same H' (upd H' d (.lst ys)) := Same.new nd'
      refine k1 ?_ d ys ms _ ((s1.trans sm).trans s3) ((s1.trans sm).free nd') upd_same (pm_fix pm (Fix.of s3)) ?_ ?_ (hj ms em)
      · rw [hrt, List.all_eq_true]
        intro p hp
        have : J.mvOf p ∈ ms.map some := by rw [← em]; exact List.mem_map_of_mem hp
        obtain ⟨m, _, e⟩ := List.mem_map.mp this
        rw [← e]; rfl
      · have := congrArg List.length em
        rw [List.length_map, List.length_map] at this
        omega
      · intro m hm
        have : some m ∈ ps.map J.mvOf := by rw [em]; exact List.mem_map_of_mem hm
        obtain ⟨p, _, e⟩ := List.mem_map.mp this
        exact mv_good e
end
end Jug

namespace Jug
open PySem L2
/-! ### texts: written -/
theorem num_short {n : Int} (h0 : 0 ≤ n) (h1 : n < 100) : (J.numT n).length ≤ 2 := by
  have := J.txt_ok n.toNat (by omega)
  rw [Int.toNat_of_nonneg h0] at this
  exact J.ok_len this.1
theorem log_small {n : Int} (h0 : 0 ≤ n) (h1 : n < 100) : n.natAbs.log2 < 1920 := by
  have : n.natAbs.log2 ≤ n.natAbs := Nat.log2_le_self _
  omega
section
variable {P : Program} {w : World} {K : PySem.W.Frag} {mg : Str → Option Value} {base : Heap} {CH : Addr} {Z : Cz}
def sp_house_text (CH : Addr) : Sp := fun vs H Q _ => ∃ p sz tap, vs = [.ref p] ∧ House CH H p sz tap ∧ Hz sz ∧ ∀ H', Same H H' → Q (.str (J.hsText sz tap)) H'
theorem ok_house_text {f : Addr} {fd : FuncData} (F : Fun K "house_text" "house_text" s_house_text f fd) (hs : mg "str" = none) (C : CHs K CH) (ST : MeB P w K mg base 1 CH "sizes" ["self"] (sp_sizes CH)) : FnOk P w K mg base CX0 2 f fd ["house"] (sp_house_text CH) := by
  refine F.ok sc_house_text (fun vs H Q E h => ?_) (fun cdv A outer s H vs Q E hr h => ?_)
  · obtain ⟨p, sz, tap, rfl, _⟩ := h
    rfl
  · obtain ⟨p, sz, tap, rfl, hh, hz, k⟩ := h
    have nd := sc_house_text.nd
    refine ⟨_, pss_cons (ps_set (i := 1) nd rfl (Or.inl rfl) (pe_op op_cat (pe_lst (pa_cons pe_str pa_nil)) (pe_lc sc_house_text [] (pi_list (pe_me0 ST (pv 0) hr)) (fun _ _ _ _ _ _ => ⟨pif_nil, pe_callTy call_str_int (by rfl) hs bt_str (pa_cons (pv 0) pa_nil)⟩))))
      (pss_cons (ps_if (pt_val (pe_fld (pv 0) rfl)) (pss_one (ps_expr (pe_append (pv 1) pe_str))) pss_nil)
      (pss_one (ps_ret (pe_join pe_str (pv 1))))), ?_⟩
    refine ⟨(by show 1 ≤ sizeLine; decide), fun a na => ?_⟩
    obtain ⟨dx, t, hp, ht⟩ := id hh
    have sa : Same H (upd H a (.lst [.str "jugs"])) := Same.new na
    refine ⟨_, rfl, p, dx, _, rfl, sa _ _ hp, hF_no _ _ (by decide +kernel) (by decide +kernel), p, sz, tap, rfl, hh.mono sa, fun l nl => ⟨l, rfl, ⟨_, SqL.of upd_same⟩, ?_⟩⟩
    have s1 : Same H (upd (upd H a (.lst [.str "jugs"])) l (.lst (sz.map V.int))) := sa.lay nl
    have e1 : (upd (upd H a (.lst [.str "jugs"])) l (.lst (sz.map V.int))) a = some (.lst [.str "jugs"]) := (Same.new nl) _ _ upd_same
    refine lc_list (K := K) (a := l) (xs := sz.map V.int) (fun i ys H' => H' = upd (upd H a (.lst [.str "jugs"])) l (.lst (sz.map V.int)) ∧ ys = (sz.take i).map (fun n => V.str (J.numT n)))
      ⟨rfl, rfl⟩ (by rw [List.length_map, sizeLine_eq]; have := hz.l4; omega) (fun i ys H' ⟨_, e⟩ => by rw [e, List.length_map, List.length_take]; omega) (fun i ys H' _ ⟨e, _⟩ => by subst e; exact SqL.of upd_same) ?_ ?_
    · rintro i v ys H' hv ⟨rfl, rfl⟩
      obtain ⟨n, en, rfl⟩ := mem_ints hv
      have hb := hz.bd n (List.mem_of_getElem? en)
      refine tYes_of ⟨_, rfl, n, rfl, log_small (by omega) (by omega), rfl, ?_⟩
      rw [List.take_add_one, en, List.map_append]; rfl
    · rintro ys H' ⟨rfl, rfl⟩ d nd'
      rw [List.length_map, List.take_of_length_le (Nat.le_refl _)]
      have l4 := hz.l4
      have s2 : Same (upd (upd H a (.lst [.str "jugs"])) l (.lst (sz.map V.int))) (upd (upd (upd H a (.lst [.str "jugs"])) l (.lst (sz.map V.int))) d (.lst (sz.map fun n => V.str (J.numT n)))) := Same.new nd'
      refine ⟨a, d, _, _, rfl, rfl, s2 _ _ e1, upd_same, by rw [sizeLine_eq]; simp; omega, fun r nr => ?_⟩
      have s3 := (s1.trans s2).lay (o := .lst ([V.str "jugs"] ++ sz.map fun n => V.str (J.numT n))) nr
      generalize hH3 : upd (upd (upd (upd H a (.lst [.str "jugs"])) l (.lst (sz.map V.int))) d (.lst (sz.map fun n => V.str (J.numT n)))) r (.lst ([V.str "jugs"] ++ sz.map fun n => V.str (J.numT n))) = H3 at s3 ⊢
      have e3 : H3 r = some (.lst ([V.str "jugs"] ++ sz.map fun n => V.str (J.numT n))) := by rw [← hH3]; exact upd_same
      have ws : [V.str "jugs"] ++ (sz.map fun n => V.str (J.numT n)) = ([J.jugs] ++ sz.map J.numT).map V.str := by rw [List.map_append, List.map_map]; rfl
      have len2 : ∀ x ∈ sz.map J.numT, x.length ≤ 2 := fun x hx => by
        obtain ⟨n, hn, rfl⟩ := List.mem_map.mp hx
        have := hz.bd n hn
        exact num_short (by omega) (by omega)
      have sum2 : ∀ (l : List Str), (∀ x ∈ l, x.length ≤ 2) → (l.map (·.length)).sum ≤ 2 * l.length := fun l h => by
        induction l with
        | nil => simp
        | cons x l ih =>
          have h1 := h x List.mem_cons_self
          have h2 := ih fun y hy => h y (List.mem_cons_of_mem _ hy)
          simp only [List.map_cons, List.sum_cons, List.length_cons]
          omega
      have hsum := sum2 _ len2
      rw [List.length_map] at hsum
      refine ⟨_, rfl, p, CH, dx, _, _, rfl, s3 _ _ hp, C.cl, C.tap, hF_tap _ _, _, rfl, ?_⟩
      have j4 : J.jugs.length = 4 := by decide +kernel
      have j3 : J.tapS.length = 3 := by decide +kernel
      have j1 : (" " : Str).length = 1 := by decide +kernel
      cases tap with
      | false =>
        refine iteF ⟨rfl, _, rfl, " ", r, _, rfl, rfl, SqL.of (e3.trans (by rw [ws])), ?_, ?_⟩
        · rw [List.map_append, List.sum_append, List.length_append, List.length_map, j1]
          show J.jugs.length + 0 + _ + _ ≤ _
          simp only [List.length_cons, List.length_nil]
          omega
        · have := k H3 s3
          unfold J.hsText at this
          rw [if_neg (by decide), List.append_nil] at this
          exact this
      | true =>
        refine iteT ⟨_, rfl, .inl ⟨rfl, _, SqL.of e3⟩, r, _, _, rfl, rfl, e3, by rw [sizeLine_eq]; simp; omega, ?_⟩
        have s4 : Same H (upd H3 r (.lst (([V.str "jugs"] ++ sz.map fun n => V.str (J.numT n)) ++ [.str "tap"]))) := fun c o e => by
          have : c ≠ r := fun z => by
            have := (s1.trans s2) _ _ e
            rw [z, nr] at this; cases this
          rw [upd_ne this]; exact s3 _ _ e
        refine ⟨rfl, _, rfl, " ", r, ([J.jugs] ++ sz.map J.numT) ++ [J.tapS], rfl, rfl, SqL.of (upd_same.trans (by rw [ws]; simp only [List.map_append, List.map_cons, List.map_nil])), ?_, ?_⟩
        · rw [List.map_append, List.sum_append, List.map_append, List.sum_append, List.length_append, List.length_append, List.length_map, j1]
          show J.jugs.length + 0 + _ + (J.tapS.length + 0) + _ ≤ _
          simp only [List.length_cons, List.length_nil]
          omega
        · have := k _ s4
          unfold J.hsText at this
          rw [if_pos rfl] at this
          exact this
def sp_move_text (Z : Cz) : Sp := fun vs H Q _ => ∃ p m, vs = [.ref p] ∧ MvAt Z H p m ∧ J.mvGood m ∧ ∀ H', Same H H' → Q (.str (J.mvT m)) H'
theorem ok_move_text {f : Addr} {fd : FuncData} (F : Fun K "move_text" "move_text" s_move_text f fd) (B : Bt mg) (hs : mg "str" = none) (M : MvC K mg Z) : FnOk P w K mg base CX0 1 f fd ["move"] (sp_move_text Z) := by
  refine F.ok sc_move_text (fun vs H Q E h => ?_) (fun cdv A outer s H vs Q E hr h => ?_)
  · obtain ⟨p, m, rfl, _⟩ := h
    rfl
  · obtain ⟨p, m, rfl, hm, hg, k⟩ := h
    refine ⟨_, pss_cons (ps_if (pt_val (pe_callB call_isinst (by rfl) B.isinstance bt_isinstance (pa_cons (pv 0) (pa_cons (pe_glob (v := .ref Z.P) (by rfl) M.gP rfl) pa_nil)))) (pss_one (ps_ret (pe_join pe_str (pe_lst (pa_cons pe_str (pa_cons (pe_callTy call_str_int (by rfl) hs bt_str (pa_cons (pe_fld (pv 0) rfl) pa_nil)) (pa_cons (pe_callTy call_str_int (by rfl) hs bt_str (pa_cons (pe_fld (pv 0) rfl) pa_nil)) pa_nil))))))) pss_nil)
      (pss_cons (ps_if (pt_val (pe_callB call_isinst (by rfl) B.isinstance bt_isinstance (pa_cons (pv 0) (pa_cons (pe_glob (v := .ref Z.F) (by rfl) M.gF rfl) pa_nil)))) (pss_one (ps_ret (pe_join pe_str (pe_lst (pa_cons pe_str (pa_cons (pe_callTy call_str_int (by rfl) hs bt_str (pa_cons (pe_fld (pv 0) rfl) pa_nil)) pa_nil)))))) pss_nil)
      (pss_one (ps_ret (pe_join pe_str (pe_lst (pa_cons pe_str (pa_cons (pe_callTy call_str_int (by rfl) hs bt_str (pa_cons (pe_fld (pv 0) rfl) pa_nil)) pa_nil)))))))
      , ?_⟩
    obtain ⟨dx, hp⟩ := id hm
    have j1 : (" " : Str).length = 1 := by decide +kernel
    have fin : ∀ (l : List Str), (∀ x ∈ l, x.length ≤ 5) → l.length ≤ 3 → (l.map (·.length)).sum + l.length * (" " : Str).length ≤ 16777216 := fun l h1 h2 => by
      rw [j1]
      match l, h2 with
      | [], _ => simp
      | [a], _ => have := h1 a (by simp); simp; omega
      | [a, b], _ => have := h1 a (by simp); have := h1 b (by simp); simp; omega
      | [a, b, c], _ => have := h1 a (by simp); have := h1 b (by simp); have := h1 c (by simp); simp; omega
    cases m with
    | pour a b =>
      refine ⟨_, rfl, _, _, _, _, _, rfl, .ref Z.P, M.ty hm, kit_self Z.P, _, rfl, iteT ?_⟩
      refine ⟨rfl, _, rfl, p, Z.P, dx, _, _, rfl, hp, M.po.cl, M.po.one, pF_one a b, a, rfl, log_small (by omega) (by have := hg.1; omega), _, rfl, p, Z.P, dx, _, _, rfl, hp, M.po.cl, M.po.other, pF_other a b, b, rfl, log_small (by omega) (by have := hg.2.1; omega), ?_⟩
      refine ⟨(by show 3 ≤ sizeLine; decide), fun l nl => ⟨" ", l, ["pour", J.numT a, J.numT b], rfl, rfl, SqL.of upd_same, fin _ ?_ (by show 3 ≤ 3; decide), k _ (Same.new nl)⟩⟩
      intro x hx
      have h1 := num_short (n := (a : Int)) (by omega) (by have := hg.1; omega)
      have h2 := num_short (n := (b : Int)) (by omega) (by have := hg.2.1; omega)
      have h3 : ("pour" : Str).length = 4 := by decide +kernel
      simp only [List.mem_cons, List.not_mem_nil, or_false] at hx
      rcases hx with rfl | rfl | rfl <;> omega
    | fill a =>
      refine ⟨_, rfl, _, _, _, _, _, rfl, .ref Z.P, M.ty hm, M.kFP, _, rfl, iteF ?_⟩
      refine ⟨_, rfl, _, _, _, _, _, rfl, .ref Z.F, M.ty hm, kit_self Z.F, _, rfl, iteT ?_⟩
      refine ⟨rfl, _, rfl, p, Z.F, dx, _, _, rfl, hp, M.fi.cl, M.fi.jug, jF_jug a, a, rfl, log_small (by omega) (by have : a < 4 := hg; omega), ?_⟩
      refine ⟨(by show 2 ≤ sizeLine; decide), fun l nl => ⟨" ", l, ["fill", J.numT a], rfl, rfl, SqL.of upd_same, fin _ ?_ (by show 2 ≤ 3; decide), k _ (Same.new nl)⟩⟩
      intro x hx
      have h1 := num_short (n := (a : Int)) (by omega) (by have : a < 4 := hg; omega)
      have h3 : ("fill" : Str).length = 4 := by decide +kernel
      simp only [List.mem_cons, List.not_mem_nil, or_false] at hx
      rcases hx with rfl | rfl <;> omega
    | emp a =>
      refine ⟨_, rfl, _, _, _, _, _, rfl, .ref Z.P, M.ty hm, M.kEP, _, rfl, iteF ?_⟩
      refine ⟨_, rfl, _, _, _, _, _, rfl, .ref Z.F, M.ty hm, M.kEF, _, rfl, iteF ?_⟩
      refine ⟨rfl, _, rfl, p, Z.E, dx, _, _, rfl, hp, M.em.cl, M.em.jug, jF_jug a, a, rfl, log_small (by omega) (by have : a < 4 := hg; omega), ?_⟩
      refine ⟨(by show 2 ≤ sizeLine; decide), fun l nl => ⟨" ", l, ["empty", J.numT a], rfl, rfl, SqL.of upd_same, fin _ ?_ (by show 2 ≤ 3; decide), k _ (Same.new nl)⟩⟩
      intro x hx
      have h1 := num_short (n := (a : Int)) (by omega) (by have : a < 4 := hg; omega)
      have h3 : ("empty" : Str).length = 5 := by decide +kernel
      simp only [List.mem_cons, List.not_mem_nil, or_false] at hx
      rcases hx with rfl | rfl <;> omega
def sp_routine_text (Z : Cz) : Sp := fun vs H Q _ => ∃ l xs ms, vs = [.ref l] ∧ H l = some (.lst xs) ∧ Paired (isM Z H) xs ms ∧ (∀ m ∈ ms, J.mvGood m) ∧ ms.length ≤ 20000 ∧ ∀ H', Same H H' → Q (.str (Txt.join "; " (ms.map J.mvT))) H'
theorem ok_routine_text {f : Addr} {fd : FuncData} (F : Fun K "routine_text" "routine_text" s_routine_text f fd) (MI : FnB P w K mg base 1 "moves_in" ["moves"] (sp_moves_in Z)) (MT : FnB P w K mg base 1 "move_text" ["move"] (sp_move_text Z)) : FnOk P w K mg base CX0 2 f fd ["moves"] (sp_routine_text Z) := by
  refine F.ok sc_routine_text (fun vs H Q E h => ?_) (fun cdv A outer s H vs Q E hr h => ?_)
  · obtain ⟨l, xs, ms, rfl, _⟩ := h
    rfl
  · obtain ⟨l, xs, ms, rfl, hl, pm, hg, hn, k⟩ := h
    refine ⟨_, pss_one (ps_ret (pe_join pe_str (pe_lc sc_routine_text [] (pi_list (pe_fn MI hr (pa_cons (pv 0) pa_nil))) (fun _ _ _ _ _ _ => ⟨pif_nil, pe_fn MT hr (pa_cons (pv 0) pa_nil)⟩)))), ?_⟩
    refine ⟨rfl, _, rfl, l, xs, ms, rfl, hl, pm, fun r H1 s1 nr e1 => ⟨r, rfl, ⟨_, SqL.of e1⟩, ?_⟩⟩
    have lx := pm.length
    refine lc_list (K := K) (a := r) (xs := xs) (fun i ys H' => Same H1 H' ∧ ys = (ms.take i).map fun m => V.str (J.mvT m)) ⟨Same.refl _, rfl⟩ (by rw [sizeLine_eq]; omega) (fun i ys H' ⟨_, e⟩ => by rw [e, List.length_map, List.length_take]; omega) (fun i ys H' _ ⟨e, _⟩ => SqL.of (e _ _ e1)) ?_ ?_
    · rintro i v ys H' hv ⟨sm, rfl⟩
      obtain ⟨m, em, q, rfl, mq⟩ := L2.Paired.get pm hv
      refine tYes_of ⟨_, rfl, q, m, rfl, mq.mono (s1.trans sm), hg m (List.mem_of_getElem? em), fun H2 s2 => ⟨sm.trans s2, ?_⟩⟩
      rw [List.take_add_one, em, List.map_append]; rfl
    · rintro ys H' ⟨sm, rfl⟩ d nd'
      rw [show (ms.take xs.length).map (fun m => V.str (J.mvT m)) = (ms.map J.mvT).map V.str by rw [List.take_of_length_le (by omega), List.map_map]; rfl]
      have j2 : ("; " : Str).length = 2 := by decide +kernel
      have sum8 : ∀ (l : List Str), (∀ x ∈ l, x.length ≤ 8) → (l.map (·.length)).sum ≤ 8 * l.length := fun l h => by
        induction l with
        | nil => simp
        | cons x l ih =>
          have h1 := h x List.mem_cons_self
          have h2 := ih fun y hy => h y (List.mem_cons_of_mem _ hy)
          simp only [List.map_cons, List.sum_cons, List.length_cons]
          omega
      have hs := sum8 (ms.map J.mvT) fun x hx => by
        obtain ⟨m, hm, rfl⟩ := List.mem_map.mp hx
        exact (J.mv_ok (hg m hm)).2.2
      rw [List.length_map] at hs
      exact ⟨"; ", d, ms.map J.mvT, rfl, rfl, SqL.of upd_same, by rw [List.length_map, j2]; omega, k _ ((s1.trans sm).lay nd')⟩
end
end Jug

namespace Jug
open PySem L2
/-! ### what the laws draw -/
theorem bt_range : bootBuiltins "range" = some (.type "range") := by decide +kernel
def prm : List Int := [1000003, 1000033, 1000037, 1000039, 1000081, 1000099, 1000117, 1000121, 1000133, 1000151, 1000159, 1000171, 1000183, 1000187, 1000193, 1000199]
theorem prm_pos : ∀ j : Nat, j < 16 → 0 < J.at0 prm j := by decide
def mos : List Int := [60, 11, 4, 2]
/-- sizes as a law draws them -/
structure LSz (sz : List Int) : Prop where
  l1 : 1 ≤ sz.length
  l4 : sz.length ≤ 4
  bd : ∀ s ∈ sz, 1 ≤ s ∧ s ≤ J.at0 mos (sz.length - 1)
theorem LSz.hz {sz : List Int} (h : LSz sz) : Hz sz := by
  have h1 := h.l1
  have h4 := h.l4
  have hb := h.bd
  refine ⟨h1, h4, fun s hs => ?_, ?_⟩
  · have := hb s hs
    have h2 : ∀ j : Nat, j < 4 → J.at0 mos j ≤ 60 := by decide
    have := h2 (sz.length - 1) (by omega)
    omega
  · match sz, h1, h4, hb with
    | [a], _, _, hb =>
      have := hb a (by simp)
      have e : J.at0 mos ([a].length - 1) = 60 := rfl
      rw [e] at this
      simp only [J.prod1, List.foldl_cons, List.foldl_nil]
      omega
    | [a, b], _, _, hb =>
      have h1 := hb a (by simp)
      have h2 := hb b (by simp)
      have e : J.at0 mos ([a, b].length - 1) = 11 := rfl
      rw [e] at h1 h2
      simp only [J.prod1, List.foldl_cons, List.foldl_nil]
      have : (a + 1) * (b + 1) ≤ 12 * 12 := Int.mul_le_mul (by omega) (by omega) (by omega) (by omega)
      rw [Int.one_mul]; omega
    | [a, b, c], _, _, hb =>
      have h1 := hb a (by simp)
      have h2 := hb b (by simp)
      have h3 := hb c (by simp)
      have e : J.at0 mos ([a, b, c].length - 1) = 4 := rfl
      rw [e] at h1 h2 h3
      simp only [J.prod1, List.foldl_cons, List.foldl_nil]
      have m1 : (a + 1) * (b + 1) ≤ 5 * 5 := Int.mul_le_mul (by omega) (by omega) (by omega) (by omega)
      have m2 : (a + 1) * (b + 1) * (c + 1) ≤ 25 * 5 := Int.mul_le_mul m1 (by omega) (by omega) (by omega)
      rw [Int.one_mul]; omega
    | [a, b, c, d], _, _, hb =>
      have h1 := hb a (by simp)
      have h2 := hb b (by simp)
      have h3 := hb c (by simp)
      have h4 := hb d (by simp)
      have e : J.at0 mos ([a, b, c, d].length - 1) = 2 := rfl
      rw [e] at h1 h2 h3 h4
      simp only [J.prod1, List.foldl_cons, List.foldl_nil]
      have m1 : (a + 1) * (b + 1) ≤ 3 * 3 := Int.mul_le_mul (by omega) (by omega) (by omega) (by omega)
      have m2 : (a + 1) * (b + 1) * (c + 1) ≤ 9 * 3 := Int.mul_le_mul m1 (by omega) (by omega) (by omega)
      have m3 : (a + 1) * (b + 1) * (c + 1) * (d + 1) ≤ 27 * 3 := Int.mul_le_mul m2 (by omega) (by omega) (by omega)
      rw [Int.one_mul]; omega
def mvT : J.Mv → List Int
  | .pour a b => [0, a, b]
  | .fill a => [1, a, 0]
  | .emp a => [2, a, 0]
section
variable {P : Program} {w : World} {K : PySem.W.Frag} {mg : Str → Option Value} {base : Heap} {CH : Addr} {Z : Cz}
def sp_cell_at (K : PySem.W.Frag) : Sp := fun vs H Q _ => ∃ (a : Addr) (ns : List Int) (k : Int), vs = [.ref a, .int k] ∧ SqL K H a (ns.map V.int) ∧ 0 ≤ k ∧ ∀ c : Int, Q (.int c) H
theorem ok_cell_at {f : Addr} {fd : FuncData} (F : Fun K "_law_cell_at" "_law_cell_at" s__law_cell_at f fd) (B : Bt mg) : FnOk P w K mg base CX0 1 f fd ["_law_script", "_law_k"] (sp_cell_at K) := by
  refine F.ok sc__law_cell_at (fun vs H Q E h => ?_) (fun cdv A outer s H vs Q E hr h => ?_)
  · obtain ⟨a, ns, k, rfl, _⟩ := h
    rfl
  · obtain ⟨a, ns, k, rfl, ha, hk, q⟩ := h
    refine ⟨_, pss_cons (ps_if (pt_cmpR op_lt (pv 1) (pe_callB call_len_seq (by rfl) B.len PySem.boot_len (pa_cons (pv 0) pa_nil)) (nomark _)) (pss_one (ps_ret (pe_ix ix_list (pv 0) (pv 1) (fun _ _ => rfl)))) pss_nil) (pss_one (ps_ret pe_int)), ?_⟩
    refine ⟨_, rfl, _, rfl, a, _, rfl, .inl ha, _, _, rfl, rfl, _, rfl, ite2 (fun hlt => ?_) (fun _ => q 0)⟩
    have hlt : k < ((ns.map V.int).length : Int) := of_decide_eq_true hlt
    rw [List.length_map] at hlt
    refine ⟨_, rfl, _, rfl, a, _, _, .int (J.at0 ns k.toNat), rfl, rfl, ha, ?_, q _⟩
    have e : ((k.toNat : Nat) : Int) = k := Int.toNat_of_nonneg hk
    rw [← e]
    exact atI_nat (getV_of (by omega))
def sp_draw : Sp := fun vs H Q _ => ∃ c k m : Int, vs = [.int c, .int k, .int m] ∧ 0 ≤ k ∧ 0 < m ∧ ∀ r H', 0 ≤ r → r < m → Same H H' → Q (.int r) H'
theorem ok_draw {f : Addr} {fd : FuncData} (F : Fun K "_law_draw" "_law_draw" s__law_draw f fd) : FnOk P w K mg base CX0 1 f fd ["_law_cell", "_law_k", "_law_many"] sp_draw := by
  refine F.ok sc__law_draw (fun vs H Q E h => ?_) (fun cdv A outer s H vs Q E hr h => ?_)
  · obtain ⟨c, k, m, rfl, _⟩ := h
    rfl
  · obtain ⟨c, k, m, rfl, hk, hm, q⟩ := h
    refine ⟨_, @pss_cons _ _ _ _ _ (@ps_set _ _ 3 "_law_primes" _ _ _ sc__law_draw.nd rfl (Or.inl rfl) (@pe_tup _ _ _ _ _ (@pa_ints _ _ prm (by decide +kernel))) rfl (.inl rfl))
      (pss_one (ps_ret (pe_op op_mod (pe_op op_mod (pe_op op_add (pe_op op_mul (pv 0) pe_int) (pe_op op_mul (pv 1) pe_int)) (pe_ix ix_tup (pv 3) (pe_op op_mod (pv 1) pe_int) (fun _ _ => rfl))) (pv 2)))), ?_⟩
    refine ⟨(by show 16 ≤ sizeLine; decide), fun t nt => ?_⟩
    have e : (((k % 16).toNat : Nat) : Int) = k % 16 := Int.toNat_of_nonneg (by omega)
    have hlt : (k % 16).toNat < 16 := by omega
    refine ⟨_, rfl, _, _, rfl, rfl, .inr ⟨by decide, by decide⟩, _, rfl, _, _, rfl, rfl, .inr ⟨by decide, by decide⟩, _, _, rfl, rfl, _, rfl, _, rfl, _, _, rfl, rfl, (by show (0 : Int) < 16; decide), t, _, _, .int (J.at0 prm (k % 16).toNat), rfl, rfl, SqT.of upd_same,
      by show atI (prm.map V.int) (k % 16) = _; rw [← e]; exact atI_nat (getV_of hlt), _, _, rfl, rfl, prm_pos _ hlt, _, rfl, _, _, rfl, rfl, hm, ?_⟩
    exact q _ _ (Int.emod_nonneg _ (by omega)) (Int.emod_lt_of_pos _ hm) (Same.new nt)
def sp_law_sizes : Sp := fun vs H Q _ => ∃ c : Int, vs = [.int c] ∧ ∀ l H' sz, Same H H' → H l = none → H' l = some (.lst (sz.map V.int)) → LSz sz → Q (.ref l) H'
theorem ok_law_sizes {f : Addr} {fd : FuncData} (F : Fun K "_law_sizes" "_law_sizes" s__law_sizes f fd) (B : Bt mg) (D : FnB P w K mg base 1 "_law_draw" ["_law_cell", "_law_k", "_law_many"] sp_draw) : FnOk P w K mg base CX0 2 f fd ["_law_cell"] sp_law_sizes := by
  refine F.ok sc__law_sizes (fun vs H Q E h => ?_) (fun cdv A outer s H vs Q E hr h => ?_)
  · obtain ⟨c, rfl, _⟩ := h
    rfl
  · obtain ⟨c, rfl, k⟩ := h
    refine ⟨_, pss_cons (ps_set (i := 1) sc__law_sizes.nd rfl (Or.inl rfl) (pe_op op_add pe_int (pe_fn D hr (pa_cons (pv 0) (pa_cons pe_int (pa_cons pe_int pa_nil))))))
      (pss_cons (ps_set (i := 2) sc__law_sizes.nd rfl (Or.inr rfl) (pe_ix ix_tup (pe_tup (pa_ints (ns := mos) (by decide +kernel))) (pe_op op_sub (pv 1) pe_int) (fun _ _ => rfl)))
      (pss_one (ps_ret (pe_lc sc__law_sizes [0, 2] (pi_range1 (by rfl) B.range (pa_cons (pv 1) pa_nil)) (fun _ _ _ _ _ _ => ⟨pif_nil, pe_op op_add pe_int (pe_fn D hr (pa_cons (pe_op op_add (pv 1) (pe_op op_mul pe_int (pv 0))) (pa_cons (pe_op op_add pe_int (pv 0)) (pa_cons (pv 2) pa_nil))))⟩))))), ?_⟩
    refine ⟨_, rfl, c, 0, 4, rfl, by decide, by decide, fun r H1 r0 r4 s1 => ?_⟩
    obtain ⟨n, rfl⟩ : ∃ n : Nat, r = (n : Int) := ⟨r.toNat, (Int.toNat_of_nonneg r0).symm⟩
    have hn : n < 4 := by omega
    refine ⟨_, _, rfl, rfl, (by show 4 ≤ sizeLine; decide), fun t nt => ?_⟩
    have em : (1 + (n : Int)) - 1 = (n : Int) := by omega
    refine ⟨_, rfl, _, _, rfl, rfl, t, _, _, .int (J.at0 mos n), rfl, rfl, SqT.of upd_same, by show atI (mos.map V.int) ((1 + (n : Int)) - 1) = _; rw [em]; exact atI_nat (getV_of hn), ?_⟩
    have s2 : Same H (upd H1 t (.tup (mos.map V.int))) := s1.lay nt
    have hmo : ∀ j : Nat, j < 4 → 0 < J.at0 mos j := by decide
    refine ⟨_, rfl, 1 + (n : Int), rfl, by omega, by omega, ?_⟩
    have en : (1 + (n : Int)).toNat = n + 1 := by omega
    rw [en]
    refine lc_rangeN (n := n + 1) (fun i ys H' => Same (upd H1 t (.tup (mos.map V.int))) H' ∧ ∃ sz : List Int, ys = sz.map V.int ∧ sz.length = i ∧ ∀ s ∈ sz, 1 ≤ s ∧ s ≤ J.at0 mos n) ⟨Same.refl _, [], rfl, rfl, by simp⟩ (small1000 (by omega))
      (fun i ys H' ⟨_, sz, e, l, _⟩ => by rw [e, List.length_map, l]; exact Nat.le_refl _) ?_ ?_
    · rintro i ys H2 hi ⟨s3, sz, rfl, hl, hb⟩
      refine tYes_of ⟨_, rfl, _, rfl, _, _, rfl, rfl, .inl ⟨by decide, by decide⟩, _, _, rfl, rfl, _, rfl, _, _, rfl, rfl, _, rfl, _, _, _, rfl, by omega, hmo n hn, fun r' H3 r0' r4' s4 => ?_⟩
      refine ⟨_, _, rfl, rfl, s3.trans s4, sz ++ [1 + r'], ?_, ?_, ?_⟩
      · rw [List.map_append]; rfl
      · simp [hl]
      · intro s hs
        rcases List.mem_append.mp hs with h | h
        · exact hb s h
        · have e : s = 1 + r' := by simpa using h
          omega
    · rintro ys H2 ⟨s3, sz, rfl, hl, hb⟩ D nD
      refine k D _ sz ((s2.trans s3).lay nD) ((s2.trans s3).free nD) upd_same ⟨by omega, by omega, fun s hs => ?_⟩
      rw [hl]; exact hb s hs
end
section
variable {P : Program} {w : World} {K : PySem.W.Frag} {mg : Str → Option Value} {base : Heap} {CH : Addr} {Z : Cz}
def sp_all_moves : Sp := fun vs H Q _ => ∃ (l : Addr) (sz : List Int) (tap : Bool), vs = [.ref l, .bl tap] ∧ H l = some (.lst (sz.map V.int)) ∧ sz.length ≤ 4 ∧ ∀ r H' xs, Same H H' → H r = none → H' r = some (.lst xs) → Paired (isTI H') xs ((J.moves sz.length tap).map mvT) → Q (.ref r) H'
/-- one comprehension of all jugs -/
theorem ok_all_moves {f : Addr} {fd : FuncData} (F : Fun K "_law_all_moves" "_law_all_moves" s__law_all_moves f fd) (B : Bt mg) : FnOk P w K mg base CX0 1 f fd ["_law_sizes_here", "_law_tap"] sp_all_moves := by
  refine F.ok sc__law_all_moves (fun vs H Q E h => ?_) (fun cdv A outer s H vs Q E hr h => ?_)
  · obtain ⟨l, sz, tap, rfl, _⟩ := h
    rfl
  · obtain ⟨l, sz, tap, rfl, hl, h4, k⟩ := h
    refine ⟨_, pss_cons (ps_set (i := 2) sc__law_all_moves.nd rfl (Or.inl rfl) (pe_callTy (call_list_rng rfl) (by rfl) B.list bt_list (pa_cons (pe_callTy call_rangeR (by rfl) B.range bt_range (pa_cons (pe_callB call_len_seq (by rfl) B.len PySem.boot_len (pa_cons (pv 0) pa_nil)) pa_nil)) pa_nil)))
      (pss_cons (ps_set (i := 3) sc__law_all_moves.nd rfl (Or.inl rfl) (pe_lst pa_nil))
      (pss_cons (ps_for PassesOwn.never rfl (pi_list (pv 2)) (pg_name (i := 4) sc__law_all_moves.nd rfl (Or.inr rfl))
        (pss_one (ps_set (i := 3) sc__law_all_moves.nd rfl (Or.inl rfl) (pe_op op_cat (pv 3) (pe_lc sc__law_all_moves [4] (pi_list (pv 2)) (fun _ _ _ _ _ _ => ⟨pif_one (pt_cmpR op_ne (pv 0) (pv 1) (nomark _)), pe_tup (pa_cons pe_int (pa_cons (pv 1) (pa_cons (pv 0) pa_nil)))⟩))))))
      (pss_cons (ps_if (pt_val (pv 1)) (pss_one (ps_set (i := 3) sc__law_all_moves.nd rfl (Or.inl rfl) (pe_op op_cat (pe_op op_cat (pv 3) (pe_lc sc__law_all_moves [] (pi_list (pv 2)) (fun _ _ _ _ _ _ => ⟨pif_nil, pe_tup (pa_cons pe_int (pa_cons (pv 0) (pa_cons pe_int pa_nil)))⟩)))
          (pe_lc sc__law_all_moves [] (pi_list (pv 2)) (fun _ _ _ _ _ _ => ⟨pif_nil, pe_tup (pa_cons pe_int (pa_cons (pv 0) (pa_cons pe_int pa_nil)))⟩))))) pss_nil)
      (pss_one (ps_ret (pv 3)))))), ?_⟩
    have hjl : ∀ n : Nat, ((List.range n).map fun (k : Nat) => V.int (k : Int)).length = n := fun n => by simp
    have hjg : ∀ (n i : Nat) (x : V), ((List.range n).map fun (k : Nat) => V.int (k : Int))[i]? = some x → i < n ∧ x = .int (i : Int) := fun n i x e => by
      rw [List.getElem?_map] at e
      by_cases hi : i < n
      · rw [List.getElem?_range hi] at e
        exact ⟨hi, (Option.some.inj e).symm⟩
      · rw [List.getElem?_eq_none_iff.mpr (by simp; omega)] at e
        cases e
    refine ⟨_, rfl, l, _, rfl, .inl (SqL.of hl), _, rfl, fun g ng => ?_⟩
    rw [List.length_map]
    refine ⟨g, _, rfl, upd_same, by omega, by omega, fun j nj => ?_⟩
    rw [Int.toNat_natCast]
    have s1 : Same H (upd (upd H g (.rng 0 sz.length)) j (.lst ((List.range sz.length).map fun (k : Nat) => V.int (k : Int)))) := (Same.new ng).lay nj
    refine ⟨(by show 0 ≤ sizeLine; decide), fun r nr => ?_⟩
    have s2 := s1.lay (o := .lst []) nr
    have ej : (upd (upd (upd H g (.rng 0 sz.length)) j (.lst ((List.range sz.length).map fun (k : Nat) => V.int (k : Int)))) r (.lst [])) j = some (.lst ((List.range sz.length).map fun (k : Nat) => V.int (k : Int))) := (Same.new nr) _ _ upd_same
    generalize hH0 : upd (upd (upd H g (.rng 0 sz.length)) j (.lst ((List.range sz.length).map fun (k : Nat) => V.int (k : Int)))) r (.lst []) = H0 at s2 ej ⊢
    have er : H0 r = some (.lst []) := by rw [← hH0]; exact upd_same
    refine ⟨_, rfl, j, rfl, ⟨_, SqL.of ej⟩, for_list (K := K) (a := j) (xs := (List.range sz.length).map fun (k : Nat) => V.int (k : Int)) (fun i σ H' => ∃ b xs v4, σ = [some (.ref l), some (.bl tap), some (.ref j), some (.ref b), v4] ∧ Same H0 H' ∧ H b = none ∧ H' b = some (.lst xs) ∧ Paired (isTI H') xs (((List.range i).flatMap (row sz.length)).map mvT))
      ⟨r, [], none, rfl, Same.refl _, s1.free nr, er, .nil⟩ (fun i σ H' _ ⟨_, _, _, _, s3, _⟩ => SqL.of (s3 _ _ ej)) ?_ ?_⟩
    · rintro i x σ H1 hx ⟨b, xs, v4, rfl, s3, nb, eb, pb⟩
      obtain ⟨hi, rfl⟩ := hjg _ _ _ hx
      refine ⟨_, rfl, _, rfl, j, rfl, ⟨_, SqL.of (s3 _ _ ej)⟩, lc_list (xs := (List.range sz.length).map fun (k : Nat) => V.int (k : Int)) (fun m ys H' => Same H1 H' ∧ ys.length ≤ m ∧ Paired (isTI H') ys ((rowTo i m).map mvT)) ⟨Same.refl _, Nat.le_refl _, .nil⟩ (small1000 (by rw [hjl]; omega)) (fun m ys H' ⟨_, q, _⟩ => q)
        (fun m ys H' _ ⟨s4, _⟩ => SqL.of (s4 _ _ (s3 _ _ ej))) ?_ ?_⟩
      · rintro m y ys H2 hy ⟨s4, l4, p4⟩
        obtain ⟨hm, rfl⟩ := hjg _ _ _ hy
        refine ⟨_, rfl, _, rfl, rfl, _, rfl, ?_⟩
        by_cases hmi : m = i
        · subst hmi
          rw [decide_eq_true rfl]
          refine iteF ⟨s4, by omega, ?_⟩
          rw [rowTo_eq, if_pos rfl, List.append_nil]
          exact p4
        · rw [decide_eq_false (by simp; omega)]
          refine iteT ⟨_, rfl, _, rfl, (by show 3 ≤ sizeLine; decide), fun t nt => ⟨s4.lay nt, by simp; omega, ?_⟩⟩
          rw [rowTo_eq, if_neg hmi, List.map_append]
          exact Paired.snocP (pt_fix p4 (Fix.of (Same.new nt))) ⟨t, rfl, upd_same⟩
      · rintro ys H2 ⟨s4, l4, p4⟩ D nD
        have s5 : Same H2 (upd H2 D (.lst ys)) := Same.new nD
        have lx : xs.length ≤ 16 := by
          rw [pb.length, List.length_map]
          have h1 := rows_len sz.length i
          have h2 : i * sz.length ≤ 4 * 4 := Nat.mul_le_mul (by omega) h4
          omega
        rw [hjl] at l4
        refine ⟨b, D, xs, ys, rfl, rfl, s5 _ _ (s4 _ _ eb), upd_same, Nat.le_of_lt (small1000 (by omega)), fun p np => ?_⟩
        have s6 : Same (upd H2 D (.lst ys)) (upd (upd H2 D (.lst ys)) p (.lst (xs ++ ys))) := Same.new np
        have s7 := (s3.trans s4).trans (s5.trans s6)
        refine ⟨p, _, _, rfl, s7, (s2.trans ((s3.trans s4).trans s5)).free np, upd_same, ?_⟩
        rw [List.range_succ, List.flatMap_append, List.map_append]
        have e : (List.flatMap (row sz.length) [i]) = rowTo i sz.length := by simp [row, rowTo]
        rw [e]
        rw [hjl] at p4
        exact Paired.appP (pt_fix pb (Fix.of (s4.trans (s5.trans s6)))) (pt_fix p4 (Fix.of (s5.trans s6)))
    · rintro σ H1 ⟨b, xs, v4, rfl, s3, nb, eb, pb⟩
      rw [hjl] at pb
      refine ⟨_, rfl, _, rfl, ?_⟩
      have lx : xs.length ≤ 16 := by
        rw [pb.length, List.length_map]
        have h1 := rows_len sz.length sz.length
        have h2 : sz.length * sz.length ≤ 4 * 4 := Nat.mul_le_mul h4 h4
        omega
      cases tap with
      | false =>
        refine iteF ⟨_, rfl, k b H1 xs (s2.trans s3) nb eb ?_⟩
        have e : J.moves sz.length false = J.pours sz.length := by simp [J.moves]
        rw [e]; exact pb
      | true =>
        refine iteT ?_
        refine ⟨_, rfl, _, rfl, j, rfl, ⟨_, SqL.of (s3 _ _ ej)⟩, lc_list (xs := (List.range sz.length).map fun (k : Nat) => V.int (k : Int)) (fun m ys H' => Same H1 H' ∧ ys.length ≤ m ∧ Paired (isTI H') ys (((List.range m).map J.Mv.fill).map mvT)) ⟨Same.refl _, Nat.le_refl _, .nil⟩ (small1000 (by rw [hjl]; omega)) (fun m ys H' ⟨_, q, _⟩ => q)
          (fun m ys H' _ ⟨s4, _⟩ => SqL.of (s4 _ _ (s3 _ _ ej))) ?_ ?_⟩
        · rintro m y ys H2 hy ⟨s4, l4, p4⟩
          obtain ⟨hm, rfl⟩ := hjg _ _ _ hy
          refine tYes_of ⟨_, rfl, (by show 3 ≤ sizeLine; decide), fun t nt => ⟨s4.lay nt, by simp; omega, ?_⟩⟩
          rw [List.range_succ, List.map_append, List.map_append]
          exact Paired.snocP (pt_fix p4 (Fix.of (Same.new nt))) ⟨t, rfl, upd_same⟩
        · rintro ys H2 ⟨s4, l4, p4⟩ D nD
          rw [hjl] at l4 p4
          have s5 : Same H2 (upd H2 D (.lst ys)) := Same.new nD
          refine ⟨b, D, xs, ys, rfl, rfl, s5 _ _ (s4 _ _ eb), upd_same, Nat.le_of_lt (small1000 (by omega)), fun p np => ?_⟩
          have s6 : Same (upd H2 D (.lst ys)) (upd (upd H2 D (.lst ys)) p (.lst (xs ++ ys))) := Same.new np
          have s7 : Same H1 (upd (upd H2 D (.lst ys)) p (.lst (xs ++ ys))) := s4.trans (s5.trans s6)
          have p7 : Paired (isTI (upd (upd H2 D (.lst ys)) p (.lst (xs ++ ys)))) (xs ++ ys) ((J.pours sz.length ++ (List.range sz.length).map J.Mv.fill).map mvT) := by
            rw [List.map_append]
            exact Paired.appP (pt_fix pb (Fix.of s7)) (pt_fix p4 (Fix.of (s5.trans s6)))
          have e7 : (upd (upd H2 D (.lst ys)) p (.lst (xs ++ ys))) p = some (.lst (xs ++ ys)) := upd_same
          generalize hH7 : upd (upd H2 D (.lst ys)) p (.lst (xs ++ ys)) = H7 at s7 p7 e7 ⊢
          refine ⟨_, rfl, j, rfl, ⟨_, SqL.of (s7 _ _ (s3 _ _ ej))⟩, lc_list (xs := (List.range sz.length).map fun (k : Nat) => V.int (k : Int)) (fun m zs H' => Same H7 H' ∧ zs.length ≤ m ∧ Paired (isTI H') zs (((List.range m).map J.Mv.emp).map mvT)) ⟨Same.refl _, Nat.le_refl _, .nil⟩ (small1000 (by rw [hjl]; omega)) (fun m ys H' ⟨_, q, _⟩ => q)
            (fun m ys H' _ ⟨s8, _⟩ => SqL.of (s8 _ _ (s7 _ _ (s3 _ _ ej)))) ?_ ?_⟩
          · rintro m y zs H8 hy ⟨s8, l8, p8⟩
            obtain ⟨hm, rfl⟩ := hjg _ _ _ hy
            refine tYes_of ⟨_, rfl, (by show 3 ≤ sizeLine; decide), fun t nt => ⟨s8.lay nt, by simp; omega, ?_⟩⟩
            rw [List.range_succ, List.map_append, List.map_append]
            exact Paired.snocP (pt_fix p8 (Fix.of (Same.new nt))) ⟨t, rfl, upd_same⟩
          · rintro zs H8 ⟨s8, l8, p8⟩ D2 nD2
            rw [hjl] at l8 p8
            have s9 : Same H8 (upd H8 D2 (.lst zs)) := Same.new nD2
            refine ⟨p, D2, _, zs, rfl, rfl, s9 _ _ (s8 _ _ e7), upd_same, Nat.le_of_lt (small1000 (by rw [List.length_append]; omega)), fun p' np' => ?_⟩
            have s10 : Same (upd H8 D2 (.lst zs)) (upd (upd H8 D2 (.lst zs)) p' (.lst ((xs ++ ys) ++ zs))) := Same.new np'
            have sA := (s2.trans s3).trans (s7.trans (s8.trans s9))
            refine ⟨_, rfl, k p' _ _ (sA.trans s10) (sA.free np') upd_same ?_⟩
            have e : J.moves sz.length true = (J.pours sz.length ++ (List.range sz.length).map J.Mv.fill) ++ (List.range sz.length).map J.Mv.emp := by simp [J.moves]
            rw [e, List.map_append]
            exact Paired.appP (pt_fix p7 (Fix.of (s8.trans (s9.trans s10)))) (pt_fix p8 (Fix.of (s9.trans s10)))
end
end Jug

namespace Jug
open PySem L2
/-! ### the law's own readings -/
theorem pour_txt : ∀ a : Nat, a < 4 → ∀ b : Nat, b < 4 → ("pour " : Str) ++ J.numT a ++ " " ++ J.numT b = J.mvT (.pour a b) := by decide +kernel
theorem fill_txt : ∀ a : Nat, a < 4 → ("fill " : Str) ++ J.numT a = J.mvT (.fill a) := by decide +kernel
theorem emp_txt : ∀ a : Nat, a < 4 → ("empty " : Str) ++ J.numT a = J.mvT (.emp a) := by decide +kernel
section
variable {P : Program} {w : World} {K : PySem.W.Frag} {mg : Str → Option Value} {base : Heap} {CH : Addr} {Z : Cz}
def sp_lmt : Sp := fun vs H Q _ => ∃ p m, vs = [.ref p] ∧ H p = some (.tup ((mvT m).map V.int)) ∧ J.mvGood m ∧ ∀ H', Same H H' → Q (.str (J.mvT m)) H'
theorem ok_lmt {f : Addr} {fd : FuncData} (F : Fun K "_law_move_text" "_law_move_text" s__law_move_text f fd) (hs : mg "str" = none) : FnOk P w K mg base CX0 1 f fd ["_law_told"] sp_lmt := by
  refine F.ok sc__law_move_text (fun vs H Q E h => ?_) (fun cdv A outer s H vs Q E hr h => ?_)
  · obtain ⟨p, m, rfl, _⟩ := h
    rfl
  · obtain ⟨p, m, rfl, hp, hg, k⟩ := h
    have nd := sc__law_move_text.nd
    refine ⟨_, pss_cons (ps_asg (pv 0) (pg_tup rfl (pgs_cons (pg_name (i := 1) nd rfl (Or.inl rfl)) (pgs_cons (pg_name (i := 2) nd rfl (Or.inl rfl)) (pgs_cons (pg_name (i := 3) nd rfl (Or.inl rfl)) pgs_nil)))))
      (pss_cons (ps_if (pt_cmpR op_eq (pv 1) pe_int (nomark _)) (pss_one (ps_ret (pe_op op_add_str (pe_op op_add_str (pe_op op_add_str pe_str (pe_callTy call_str_int (by rfl) hs bt_str (pa_cons (pv 2) pa_nil))) pe_str) (pe_callTy call_str_int (by rfl) hs bt_str (pa_cons (pv 3) pa_nil))))) pss_nil)
      (pss_one (ps_ret (pe_op op_add_str (pe_ix ix_tup (pe_tup (pa_cons pe_str (pa_cons pe_str pa_nil))) (pe_op op_sub (pv 1) pe_int) (fun _ _ => rfl)) (pe_callTy call_str_int (by rfl) hs bt_str (pa_cons (pv 2) pa_nil)))))), ?_⟩
    refine ⟨_, rfl, p, _, rfl, SqT.of hp, (by cases m <;> rfl), ?_⟩
    have len : ∀ n : Nat, n < 4 → (J.numT n).length ≤ 2 := fun n h => num_short (by omega) (by omega)
    have lg : ∀ n : Nat, n < 4 → (n : Int).natAbs.log2 < 1920 := fun n h => log_small (by omega) (by omega)
    have sz : ∀ n, n ≤ 1000 → n ≤ sizeLine := fun n h => by rw [sizeLine_eq]; omega
    cases m with
    | pour a b =>
      have := len a hg.1
      have := len b hg.2.1
      refine ⟨_, _, rfl, _, _, rfl, _, _, rfl, rfl, _, rfl, rfl, _, rfl, iteT ?_⟩
      have l5 : ("pour " : Str).length = 5 := by decide +kernel
      have l1 : (" " : Str).length = 1 := by decide +kernel
      refine ⟨_, rfl, a, rfl, lg a hg.1, _, _, rfl, rfl, sz _ (by rw [l5]; show 5 + (J.numT a).length ≤ _; omega), _, _, rfl, rfl, sz _ ?_, _, rfl, b, rfl, lg b hg.2.1, _, _, rfl, rfl, sz _ ?_, ?_⟩
      · rw [Str.length_append, l5, l1]; show 5 + (J.numT a).length + 1 ≤ _; omega
      · rw [Str.length_append, Str.length_append, l5, l1]; show 5 + (J.numT a).length + 1 + (J.numT b).length ≤ _; omega
      · have := k H (Same.refl _)
        rw [← pour_txt a hg.1 b hg.2.1] at this
        exact this
    | fill a =>
      have := len a hg
      refine ⟨_, _, rfl, _, _, rfl, _, _, rfl, rfl, _, rfl, rfl, _, rfl, iteF ?_⟩
      have l5 : ("fill " : Str).length = 5 := by decide +kernel
      refine ⟨(by show 2 ≤ sizeLine; decide), fun t nt => ⟨_, rfl, _, _, rfl, rfl, t, _, 0, _, rfl, rfl, SqT.of upd_same, rfl, _, rfl, a, rfl, lg a hg, _, _, rfl, rfl, sz _ (by rw [l5]; show 5 + (J.numT a).length ≤ _; omega), ?_⟩⟩
      have := k _ (Same.new (o := .tup [V.str "fill ", V.str "empty "]) nt)
      rw [← fill_txt a hg] at this
      exact this
    | emp a =>
      have := len a hg
      refine ⟨_, _, rfl, _, _, rfl, _, _, rfl, rfl, _, rfl, rfl, _, rfl, iteF ?_⟩
      have l5 : ("empty " : Str).length = 6 := by decide +kernel
      refine ⟨(by show 2 ≤ sizeLine; decide), fun t nt => ⟨_, rfl, _, _, rfl, rfl, t, _, 1, _, rfl, rfl, SqT.of upd_same, rfl, _, rfl, a, rfl, lg a hg, _, _, rfl, rfl, sz _ (by rw [l5]; show 6 + (J.numT a).length ≤ _; omega), ?_⟩⟩
      have := k _ (Same.new (o := .tup [V.str "fill ", V.str "empty "]) nt)
      rw [← emp_txt a hg] at this
      exact this
def sp_lnum : Sp := fun vs H Q _ => ∃ x, ∃ most : Int, vs = [.str x, .int most] ∧ x.length ≤ 10000 ∧ Q (.int (J.lawNum most x)) H
theorem ok_lnum {f : Addr} {fd : FuncData} (F : Fun K "_law_number" "_law_number" s__law_number f fd) (B : Bt mg) : FnOk P w K mg base CX0 1 f fd ["_law_text", "_law_most"] sp_lnum := by
  refine F.ok sc__law_number (fun vs H Q E h => ?_) (fun cdv A outer s H vs Q E hr h => ?_)
  · obtain ⟨x, most, rfl, _⟩ := h
    rfl
  · obtain ⟨x, most, rfl, hx, k⟩ := h
    have hz : x.length ≤ sizeLine := by rw [sizeLine_eq]; omega
    refine ⟨_, pss_cons (ps_if (PW.pt (pw_or (pt_cmpR op_eq (pv 0) pe_str (nomark _)) (pw_or (pt_cmpR op_gt (pe_callB call_len_str (by rfl) B.len PySem.boot_len (pa_cons (pv 0) pa_nil)) pe_int (nomark _)) (pw_or (pt_cmpR op_ne (pe_strip (pv 0) pe_str) pe_str (nomark _))
        (pw_or1 (PW.pt (pw_and (pt_cmpR op_eq (pe_ix ix_str (pv 0) pe_int (by intro _ _; rfl)) pe_str (nomark _)) (pw_and1 (pt_cmpR op_ne (pv 0) pe_str (nomark _)))))))))) (pss_one (ps_ret (pe_un un_neg pe_int))) pss_nil)
      (pss_one (ps_ret (pe_ifExp (pt_cmpR op_le (pe_callTy call_int_str (by rfl) B.int bt_int (pa_cons (pv 0) pa_nil)) (pv 1) (nomark _)) (pe_callTy call_int_str (by rfl) B.int bt_int (pa_cons (pv 0) pa_nil)) (pe_un un_neg pe_int)))), ?_⟩
    have hl : x.cps.toList.length = x.length := by simp [Str.length]
    have bad : J.okW x = false → Q (.int (-1)) H := fun e => by
      unfold J.lawNum at k
      rw [e, Bool.false_and, if_neg (by decide)] at k
      exact k
    have last : J.okW x = true → (if (J.numW x : Int) ≤ most then Q (.int (J.numW x)) H else Q (.int (-1)) H) := fun e => by
      unfold J.lawNum at k
      rw [e, Bool.true_and] at k
      by_cases c : (J.numW x : Int) ≤ most
      · rw [if_pos c]
        rw [decide_eq_true c, if_pos rfl] at k
        exact k
      · rw [if_neg c]
        rw [decide_eq_false c, if_neg (by decide)] at k
        exact k
    have fin : J.okW x = true → tRet (tIf (tTest (tOp (rI0 fun i j => V.bl (decide (i ≤ j))) (tCB (fun xs H Q => ∃ x n, xs = [V.str x] ∧ intText? x = some n ∧ x.length ≤ 640 ∧ Q (V.int n) H) (tCons (tVar 0) tNil)) (tVar 1)))
        (tCB (fun xs H Q => ∃ x n, xs = [V.str x] ∧ intText? x = some n ∧ x.length ≤ 640 ∧ Q (V.int n) H) (tCons (tVar 0) tNil)) (tUn (rU fun i => V.int (-i)) (tC (V.int 1)))) { nx := fun x H' => Q V.non H', rt := Q } [some (.str x), some (.int most)] H := fun e => by
      have l2 := J.ok_len e
      have hl := last e
      refine ⟨_, rfl, x, _, rfl, J.ok_int e, by omega, _, rfl, _, _, rfl, rfl, _, rfl, ?_⟩
      by_cases c : (J.numW x : Int) ≤ most
      · rw [if_pos c] at hl
        rw [decide_eq_true c]
        exact iteT ⟨_, rfl, x, _, rfl, J.ok_int e, by omega, hl⟩
      · rw [if_neg c] at hl
        rw [decide_eq_false c]
        exact iteF ⟨_, rfl, hl⟩
    refine ⟨_, rfl, rfl, _, rfl, ?_⟩
    rw [dec_strs]
    by_cases h0 : x = ""
    · rw [decide_eq_true h0]
      refine iteT (iteT ⟨_, rfl, bad ?_⟩)
      rw [h0]; rfl
    rw [decide_eq_false h0]
    have hl1 : 1 ≤ x.cps.toList.length := by
      cases e : x.cps.toList with
      | nil => exact absurd (J.str_ext e) h0
      | cons a b => simp
    refine iteF ⟨_, rfl, x, rfl, hz, _, _, rfl, rfl, _, rfl, ?_⟩
    by_cases h3 : 2 < x.length
    · rw [decide_eq_true (by omega)]
      refine iteT (iteT ⟨_, rfl, bad ?_⟩)
      unfold J.okW
      match h : x.cps.toList, hl with
      | [], hl => rfl
      | [_], hl => simp at hl; omega
      | [_, _], hl => simp at hl; omega
      | _ :: _ :: _ :: _, _ => rfl
    rw [decide_eq_false (by omega)]
    refine iteF ⟨_, rfl, rfl, x, _, rfl, rfl, hz, rfl, _, rfl, ?_⟩
    have hst := J.strip_all (x := x) hl1 (by omega)
    have e0 : (Str.empty : Str) = "" := by decide +kernel
    rw [dec_strs]
    have hst' : decide (Txt.stripChars x "0123456789" = ("" : Str)) = x.cps.toList.all J.isFig := by rw [← e0]; exact hst
    rw [hst']
    cases hall : x.cps.toList.all J.isFig with
    | false =>
      refine iteT (iteT ⟨_, rfl, bad ?_⟩)
      unfold J.okW
      match h : x.cps.toList, hall with
      | [], _ => rfl
      | [c], hall => show J.isFig c = false; simpa using hall
      | [c, d], hall =>
        show (J.isFig c && J.isFig d && c != 48) = false
        have : (J.isFig c && J.isFig d) = false := by simpa using hall
        rw [this]; rfl
      | _ :: _ :: _ :: _, _ => rfl
    | true =>
      have t0 : ("0" : Str) = ⟨#[48]⟩ := by decide +kernel
      refine iteF ?_
      match hxl : x.cps.toList, hl with
      | [], hl => simp at hl; omega
      | [c], hl =>
        have e : J.okW x = true := by
          unfold J.okW; rw [hxl]
          rw [hxl] at hall
          show J.isFig c = true
          simpa using hall
        have ex := J.str_ext hxl
        refine ⟨_, rfl, x, 0, c, rfl, rfl, hz, (by rw [hxl]; rfl), rfl, _, rfl, ?_⟩
        rw [dec_strs]
        by_cases h48 : (⟨#[c]⟩ : Str) = "0"
        · rw [decide_eq_true h48]
          refine iteT ⟨_, rfl, rfl, _, rfl, ?_⟩
          rw [dec_strs, decide_eq_true (by rw [ex]; exact h48)]
          exact iteF (fin e)
        · rw [decide_eq_false h48]
          exact iteF (iteF (fin e))
      | [c, d], hl =>
        rw [hxl] at hall
        have hcd : J.isFig c = true ∧ J.isFig d = true := by simpa using hall
        have ex := J.str_ext hxl
        refine ⟨_, rfl, x, 0, c, rfl, rfl, hz, (by rw [hxl]; rfl), rfl, _, rfl, ?_⟩
        rw [dec_strs]
        by_cases h48 : (⟨#[c]⟩ : Str) = "0"
        · rw [decide_eq_true h48]
          refine iteT ⟨_, rfl, rfl, _, rfl, ?_⟩
          rw [dec_strs, decide_eq_false (by rw [ex, t0]; intro z; injection z with z; have := congrArg Array.size z; simp at this)]
          refine iteT ⟨_, rfl, bad ?_⟩
          rw [t0] at h48
          have h48 : c = 48 := by simpa using h48
          unfold J.okW
          rw [hxl, h48]
          show (J.isFig 48 && J.isFig d && 48 != 48) = false
          simp
        · rw [decide_eq_false h48]
          refine iteF (iteF (fin ?_))
          unfold J.okW
          rw [hxl]
          show (J.isFig c && J.isFig d && c != 48) = true
          rw [hcd.1, hcd.2]
          simp only [Bool.and_self, Bool.true_and, bne_iff_ne, ne_eq]
          rintro rfl
          exact h48 t0.symm
      | _ :: _ :: _ :: _, hl => simp at hl; omega
end
end Jug

namespace Jug
open PySem L2
theorem cut_last {xs : List V} : cutV xs none (some (-1)) = xs.dropLast := by
  unfold cutV
  rw [HT.sIx_none, List.drop_zero, Nat.sub_zero]
  show xs.take (if (-1 : Int) < 0 then (-1 + (xs.length : Int)).toNat else min (-1 : Int).toNat xs.length) = _
  rw [if_pos (by decide), show (-1 + (xs.length : Int)).toNat = xs.length - 1 by omega, List.dropLast_eq_take]
section
variable {P : Program} {w : World} {K : PySem.W.Frag} {mg : Str → Option Value} {base : Heap} {CH : Addr} {Z : Cz}
def sp_lhs : Sp := fun vs H Q _ => ∃ x, vs = [.str x] ∧ x.length ≤ 10000 ∧ (J.hsOk x = false → ∀ H', Same H H' → Q .non H') ∧ (J.hsOk x = true → ∀ t l H', Same H H' → H' t = some (.tup [.ref l, .bl (J.tapW x)]) → H' l = some (.lst ((J.szW x).map V.int)) → Q (.ref t) H')
theorem ok_lhs {f : Addr} {fd : FuncData} (F : Fun K "_law_house_in" "_law_house_in" s__law_house_in f fd) (B : Bt mg) (hmin : mg "min" = none) (N : FnB P w K mg base 1 "_law_number" ["_law_text", "_law_most"] sp_lnum) : FnOk P w K mg base CX0 2 f fd ["_law_text"] sp_lhs := by
  refine F.ok sc__law_house_in (fun vs H Q E h => ?_) (fun cdv A outer s H vs Q E hr h => ?_)
  · obtain ⟨x, rfl, _⟩ := h
    rfl
  · obtain ⟨x, rfl, hx, k1, k2⟩ := h
    have nd := sc__law_house_in.nd
    have hu := hr.u20
    have hz : x.length ≤ sizeLine := by rw [sizeLine_eq]; omega
    refine ⟨_, pss_cons (ps_set (i := 1) nd rfl (Or.inl rfl) (pe_split (pv 0) pe_str))
      (pss_cons (ps_set (i := 2) nd rfl (Or.inl rfl) (pe_cmpR op_eq (pe_ix ix_list (pv 1) (pe_un un_neg pe_int) (by intro _ _; rfl)) pe_str (nomark _)))
      (pss_cons (ps_if (pt_val (pv 2)) (pss_one (ps_set (i := 1) nd rfl (Or.inl rfl) (pe_slice sl_list (pv 1) po_none (po_some (pe_un un_neg pe_int))))) pss_nil)
      (pss_cons (ps_lc (i := 3) sc__law_house_in [] nd rfl rfl (pi_list (pe_slice sl_list (pv 1) (po_some pe_int) po_none)) (fun _ _ _ _ _ _ => ⟨pif_nil, pe_fn N hr (pa_cons (pv 0) (pa_cons pe_int pa_nil))⟩))
      (pss_cons (ps_if (PW.pt (pw_or (pt_cmpR (op_neD hu) (pe_slice sl_list (pv 1) po_none (po_some pe_int)) (pe_lst (pa_cons pe_str pa_nil)) (nomark _))
          (pw_or (pt_not (pt_chain op_le op_le pe_int (pe_callB call_len_seq (by rfl) B.len PySem.boot_len (pa_cons (pv 3) pa_nil)) pe_int)) (pw_or1 (pt_cmpR op_lt (pe_callB (call_minL rfl) (by rfl) hmin bt_min (pa_cons (pv 3) pa_nil)) pe_int (nomark _)))))) (pss_one (ps_ret pe_non)) pss_nil)
      (pss_cons (ps_set (i := 4) nd rfl (Or.inl rfl) pe_int)
      (pss_cons (ps_for PassesOwn.never rfl (pi_list (pv 3)) (pg_name (i := 5) nd rfl (Or.inl rfl)) (pss_one (ps_set (i := 4) nd rfl (Or.inl rfl) (pe_op op_mul (pv 4) (pe_op op_add (pv 5) pe_int)))))
      (pss_one (ps_ret (pe_ifExp (pt_cmpR op_gt (pv 4) pe_int (nomark _)) pe_non (pe_tup (pa_cons (pv 3) (pa_cons (pv 2) pa_nil)))))))))))), ?_⟩
    have sl : (J.wds x).length ≤ x.length + 2 := PyProof.Rows.split_le x " "
    refine ⟨_, rfl, rfl, x, " ", rfl, rfl, by decide +kernel, hz, (by show (J.wds x).length ≤ _; rw [sizeLine_eq]; omega), fun l nl => ?_⟩
    have ew : Txt.split x " " = J.wds x := rfl
    rw [ew]
    obtain ⟨z, hzl, hzt⟩ := wds_last x
    refine ⟨_, rfl, _, rfl, l, _, -1, _, rfl, rfl, SqL.of upd_same, at_last hzl, rfl, ?_⟩
    rw [dec_strs, ← hzt]
    have c2 : cutV ((J.wd x).map V.str) (some 1) none = ((J.wd x).drop 1).map V.str := by rw [List.map_drop]; exact cut_drop 1
    have c1 : cutV ((J.wd x).map V.str) none (some 1) = ((J.wd x).take 1).map V.str := by rw [List.map_take]; exact cut_take 1
    have wl := wd_le x
    have dl : ((J.wd x).drop 1).length ≤ x.length + 2 := by rw [List.length_drop]; omega
    obtain ⟨lw1, lw2⟩ := J.law_hs x
    have s0 : Same H (upd H l (.lst ((J.wds x).map V.str))) := Same.new nl
    have e0 : (upd H l (.lst ((J.wds x).map V.str))) l = some (.lst ((J.wds x).map V.str)) := upd_same
    generalize upd H l (.lst ((J.wds x).map V.str)) = H0 at s0 e0 ⊢
    refine ⟨_, rfl, ?_⟩
    cases ht : J.tapW x
    case' false =>
      refine ⟨_, rfl, iteF ?_⟩
      have e1 : H0 l = some (.lst ((J.wd x).map V.str)) := by rw [e0]; unfold J.wd; rw [ht, if_neg (by decide)]
      have s1 := s0
      clear e0 s0
      generalize H0 = H1 at s1 e1 ⊢
    case' true =>
      have eL : cutV ((J.wds x).map V.str) none (some (-1)) = (J.wd x).map V.str := by rw [cut_last]; unfold J.wd; rw [ht, if_pos rfl, List.map_dropLast]
      refine ⟨_, rfl, iteT ⟨_, rfl, _, rfl, _, rfl, l, _, rfl, SqL.of e0, fun l2 nl2 => ?_⟩⟩
      have s1 : Same H (upd H0 l2 (.lst (cutV ((J.wds x).map V.str) none (some (-1))))) := s0.lay nl2
      have e1 : (upd H0 l2 (.lst (cutV ((J.wds x).map V.str) none (some (-1))))) l2 = some (.lst ((J.wd x).map V.str)) := by rw [upd_same, eL]
      clear e0 s0
      generalize upd H0 l2 (.lst (cutV ((J.wds x).map V.str) none (some (-1)))) = H1 at s1 e1 ⊢
    all_goals
      refine ⟨_, rfl, _, rfl, _, _, rfl, SqL.of e1, fun r nr => ⟨r, rfl, ⟨_, SqL.of upd_same⟩, ?_⟩⟩
      rw [c2]
      rw [ht] at k2
      have s4 := s1.lay (o := .lst (((J.wd x).drop 1).map V.str)) nr
      have e4 := (Same.new (o := .lst (((J.wd x).drop 1).map V.str)) nr) _ _ e1
      have eR : (upd H1 r (.lst (((J.wd x).drop 1).map V.str))) r = some (.lst (((J.wd x).drop 1).map V.str)) := upd_same
      generalize upd H1 r (.lst (((J.wd x).drop 1).map V.str)) = H2 at s4 e4 eR ⊢
      refine lc_list (K := K) (a := r) (xs := ((J.wd x).drop 1).map V.str) (fun i ys H' => H' = H2 ∧ ys = (((J.wd x).drop 1).take i).map (fun w => V.int (J.lawNum 60 w)))
        ⟨rfl, rfl⟩ (by rw [List.length_map, sizeLine_eq]; omega) (fun i ys H' ⟨_, e⟩ => by rw [e, List.length_map, List.length_take]; omega) (fun i ys H' _ ⟨e, _⟩ => by subst e; exact SqL.of eR) ?_ ?_
      · rintro i v ys H' hv ⟨rfl, rfl⟩
        rw [List.getElem?_map] at hv
        obtain ⟨u, hu', rfl⟩ : ∃ u, ((J.wd x).drop 1)[i]? = some u ∧ v = V.str u := by
          cases e : ((J.wd x).drop 1)[i]? with
          | none => rw [e] at hv; cases hv
          | some u => rw [e] at hv; cases hv; exact ⟨u, rfl, rfl⟩
        have hm := List.mem_of_getElem? hu'
        refine tYes_of ⟨_, rfl, u, 60, rfl, Nat.le_trans (wd_short (List.mem_of_mem_drop hm)) hx, rfl, ?_⟩
        rw [List.take_add_one, hu', List.map_append]; rfl
      · rintro ys H' ⟨rfl, rfl⟩ d nd'
        have eys : (((J.wd x).drop 1).take (((J.wd x).drop 1).map V.str).length).map (fun w => V.int (J.lawNum 60 w)) = (((J.wd x).drop 1).map (J.lawNum 60)).map V.int := by
          rw [List.length_map, List.take_of_length_le (Nat.le_refl _), List.map_map]; rfl
        rw [eys]
        generalize hns : ((J.wd x).drop 1).map (J.lawNum 60) = ns at lw2 ⊢
        have s5 := s4.lay (o := .lst (ns.map V.int)) nd'
        have e5 := (Same.new (o := .lst (ns.map V.int)) nd') _ _ e4
        have eD : (upd H' d (.lst (ns.map V.int))) d = some (.lst (ns.map V.int)) := upd_same
        generalize upd H' d (.lst (ns.map V.int)) = H3 at s5 e5 eD ⊢
        refine ⟨_, rfl, _, rfl, _, _, rfl, SqL.of e5, fun p np => ⟨(by show 1 ≤ sizeLine; decide), fun q nq => ?_⟩⟩
        have pq : p ≠ q := fun z => by rw [← z, upd_same] at nq; cases nq
        have s6 : Same H3 (upd (upd H3 p (.lst (cutV ((J.wd x).map V.str) none (some 1)))) q (.lst [V.str "jugs"])) := (Same.new np).lay nq
        refine ⟨_, rcLS (s := (J.wd x).take 1) (t := [J.jugs]) (by rw [upd_ne pq, upd_same, c1]) upd_same, _, rfl, ?_⟩
        have s7 := s5.trans s6
        have e7 := s6 _ _ eD
        generalize upd (upd H3 p (.lst (cutV ((J.wd x).map V.str) none (some 1)))) q (.lst [V.str "jugs"]) = H7 at s7 e7 ⊢
        have nl' : ns.length = ((J.wd x).drop 1).length := by rw [← hns, List.length_map]
        by_cases hj : (J.wd x).take 1 = [J.jugs]
        case neg =>
          rw [decide_eq_false hj]
          refine iteT (iteT (k1 ?_ _ s7))
          rw [← lw1]; unfold J.lawHs
          rw [decide_eq_false hj]; rfl
        rw [decide_eq_true hj]
        refine iteF ⟨_, rfl, d, _, rfl, .inl (SqL.of e7), _, _, rfl, rfl, _, rfl, ?_⟩
        rw [List.length_map]
        by_cases h1 : ns.length = 0
        · rw [decide_eq_false (by omega)]
          refine iteF ⟨_, rfl, iteT (iteT (k1 ?_ _ s7))⟩
          rw [← lw1]; unfold J.lawHs
          rw [decide_eq_false (by omega : ¬ 1 ≤ ((J.wd x).drop 1).length), Bool.false_and, Bool.and_false, Bool.false_and, Bool.false_and]
        rw [decide_eq_true (by omega)]
        refine iteT ⟨_, _, rfl, rfl, _, rfl, ?_⟩
        by_cases h4 : 4 < ns.length
        · rw [decide_eq_false (by omega)]
          refine iteT (iteT (k1 ?_ _ s7))
          rw [← lw1]; unfold J.lawHs
          rw [decide_eq_false (by omega : ¬ ((J.wd x).drop 1).length ≤ 4), Bool.and_false, Bool.and_false, Bool.false_and, Bool.false_and]
        rw [decide_eq_true (by omega)]
        refine iteF ⟨_, rfl, d, ns, rfl, SqL.of e7, by omega, fun M hM hmn => ⟨_, _, rfl, rfl, _, rfl, ?_⟩⟩
        by_cases hM1 : M < 1
        · rw [decide_eq_true hM1]
          refine iteT (k1 ?_ _ s7)
          rw [← lw1]; unfold J.lawHs
          have : ((J.wd x).drop 1).all (fun w => decide (1 ≤ J.lawNum 60 w)) = false := by
            rw [List.all_eq_false]
            rw [← hns] at hM
            obtain ⟨w, hw, rfl⟩ := List.mem_map.mp hM
            exact ⟨w, hw, by rw [decide_eq_false (by omega)]; decide⟩
          rw [this, Bool.and_false, Bool.false_and]
        rw [decide_eq_false hM1]
        refine iteF ?_
        have all1 : ((J.wd x).drop 1).all (fun w => decide (1 ≤ J.lawNum 60 w)) = true := by
          rw [List.all_eq_true]
          intro w hw
          have := hmn (J.lawNum 60 w) (by rw [← hns]; exact List.mem_map_of_mem hw)
          exact decide_eq_true (by omega)
        have hok : J.hsOk x = decide (J.prod1 ns ≤ 2000) := by
          rw [← lw1]; unfold J.lawHs
          rw [decide_eq_true hj, decide_eq_true (by omega : 1 ≤ ((J.wd x).drop 1).length), decide_eq_true (by omega : ((J.wd x).drop 1).length ≤ 4), all1, hns]; simp
        have n60 : ∀ n ∈ ns, 1 ≤ n ∧ n ≤ 60 := fun n hn => by
          have h1 := hmn n hn
          rw [← hns] at hn
          obtain ⟨w, hw, rfl⟩ := List.mem_map.mp hn
          obtain ⟨_, b, c⟩ := J.law_pos (by omega : 0 ≤ J.lawNum 60 w)
          omega
        refine ⟨_, rfl, d, rfl, ⟨_, SqL.of e7⟩, for_list (K := K) (a := d) (xs := ns.map V.int) (fun i σ H' => ∃ v l', σ = [some (.str x), some (.ref l'), some (.bl (J.tapW x)), some (.ref d), some (.int ((ns.take i).foldl (fun m s => m * (s + 1)) 1)), v] ∧ H' = H7)
          ⟨none, _, (by rw [ht]; rfl), rfl⟩ (fun i σ H' _ ⟨_, _, _, e⟩ => by subst e; exact SqL.of e7) ?_ ?_⟩
        · rintro i y σ H' hy ⟨v, l', rfl, rfl⟩
          obtain ⟨n, en, rfl⟩ := mem_ints hy
          have hb := n60 n (List.mem_of_getElem? en)
          refine ⟨_, rfl, _, rfl, _, _, rfl, rfl, _, _, rfl, rfl, .inr ⟨by omega, by omega⟩, ?_⟩
          refine ⟨some (.int n), l', ?_, rfl⟩
          rw [List.take_add_one, en, List.foldl_append]
          rfl
        · rintro σ H' ⟨v, l', rfl, rfl⟩
          rw [List.length_map, List.take_length]
          refine ⟨_, rfl, _, _, rfl, rfl, _, rfl, ?_⟩
          have ep : ns.foldl (fun m s => m * (s + 1)) 1 = J.prod1 ns := rfl
          rw [ep]
          by_cases hp : J.prod1 ns ≤ 2000
          · rw [decide_eq_false (by omega)]
            rw [decide_eq_true hp] at hok
            have esz := lw2 hok
            refine iteF ⟨_, rfl, _, rfl, (by show 2 ≤ sizeLine; decide), fun t nt => ?_⟩
            refine k2 hok t d _ (s7.lay nt) (by rw [upd_same, ht]) ?_
            rw [← esz]
            exact (Same.new nt) _ _ e7
          · rw [decide_eq_true (by omega)]
            exact iteT (k1 (by rw [hok]; exact decide_eq_false hp) _ s7)
end
end Jug

namespace Jug
open PySem L2
/-! ### the law's reading of routines -/
def rightOf (s : Str) (ns : List Int) : Bool := match ns with
  | [a] => (decide (s = "fill") || decide (s = "empty")) && decide (0 ≤ a)
  | [a, b] => decide (s = "pour") && decide (0 ≤ a) && decide (0 ≤ b) && decide (a ≠ b)
  | _ => false
theorem law_neg {x : Str} : 0 ≤ J.lawNum 3 x ↔ J.okW x = true ∧ J.numW x ≤ 3 := by
  constructor
  · intro h
    obtain ⟨a, b, c⟩ := J.law_pos h
    exact ⟨a, by omega⟩
  · rintro ⟨a, b⟩
    unfold J.lawNum
    rw [a, decide_eq_true (by omega : (J.numW x : Int) ≤ 3), if_pos (by rfl)]
    omega
theorem law_eq {x : Str} (h : 0 ≤ J.lawNum 3 x) : J.lawNum 3 x = J.numW x := (J.law_pos h).2.2
theorem right_mv {p s : Str} {ws : List Str} (h : J.wds p = s :: ws) : (J.mvOf p).isSome = rightOf s (ws.map (J.lawNum 3)) := by
  rw [mv_in h]
  match ws with
  | [] => rfl
  | [a] =>
    show Option.isSome (if (J.okW a && true) = true then (if J.numW a ≤ 3 then (if s = "fill" then _ else if s = "empty" then _ else _) else _) else _) = ((decide (s = "fill") || decide (s = "empty")) && decide (0 ≤ J.lawNum 3 a))
    by_cases hn : 0 ≤ J.lawNum 3 a
    · obtain ⟨h1, h2⟩ := law_neg.mp hn
      rw [decide_eq_true hn, h1, if_pos (by rfl), if_pos h2]
      by_cases c1 : s = "fill"
      · rw [if_pos c1, decide_eq_true c1]; rfl
      · rw [if_neg c1, decide_eq_false c1]
        by_cases c2 : s = "empty"
        · rw [if_pos c2, decide_eq_true c2]; rfl
        · rw [if_neg c2, decide_eq_false c2]; rfl
    · rw [decide_eq_false hn, Bool.and_false]
      cases h1 : J.okW a with
      | false => rfl
      | true =>
        rw [if_pos (by rfl), if_neg fun h2 => hn (law_neg.mpr ⟨h1, h2⟩)]
        rfl
  | [a, b] =>
    show Option.isSome (if (J.okW a && (J.okW b && true)) = true then (if s = "pour" ∧ J.numW a ≤ 3 ∧ J.numW b ≤ 3 ∧ J.numW a ≠ J.numW b then _ else _) else _) = (decide (s = "pour") && decide (0 ≤ J.lawNum 3 a) && decide (0 ≤ J.lawNum 3 b) && decide (J.lawNum 3 a ≠ J.lawNum 3 b))
    rw [Bool.eq_iff_iff]
    simp only [Bool.and_eq_true, decide_eq_true_eq]
    constructor
    · intro h
      split at h
      case isTrue h1 =>
        split at h
        case isTrue h2 =>
          have n1 := law_neg.mpr ⟨h1.1, h2.2.1⟩
          have n2 := law_neg.mpr ⟨h1.2.1, h2.2.2.1⟩
          refine ⟨⟨⟨h2.1, n1⟩, n2⟩, ?_⟩
          rw [law_eq n1, law_eq n2]
          intro z
          exact h2.2.2.2 (by omega)
        case isFalse => cases h
      case isFalse => cases h
    · rintro ⟨⟨⟨h1, h2⟩, h3⟩, h4⟩
      obtain ⟨a1, a2⟩ := law_neg.mp h2
      obtain ⟨b1, b2⟩ := law_neg.mp h3
      rw [law_eq h2, law_eq h3] at h4
      rw [if_pos ⟨a1, b1, trivial⟩, if_pos ⟨h1, a2, b2, fun z => h4 (by rw [z])⟩]
      rfl
  | _ :: _ :: _ :: _ => simp [mvIn, rightOf]
def pourOk : List Int → Bool
  | [a, b] => decide (0 ≤ a) && decide (0 ≤ b) && decide (a ≠ b)
  | _ => false
def tPour (K : PySem.W.Frag) : TE := fun σ H Q => ∃ s ws ns l d, σ[2]? = some (some (.ref l)) ∧ σ[3]? = some (some (.ref d)) ∧ H l = some (.lst (V.str s :: ws)) ∧ H d = some (.lst (ns.map V.int)) ∧ Q (.bl (decide (s = "pour") && pourOk ns)) H
def r2Of (s : Str) (rh : Bool) : List Int → Bool
  | [a] => if s = "fill" ∨ s = "empty" then decide (0 ≤ a) else rh
  | _ => rh
/-- the end of a turn -/
def tTail (K : PySem.W.Frag) : TS := fun D σ H => ∃ s ws, ∃ ns : List Int, ∃ l d rh x0 x1, σ = [x0, x1, some (.ref l), some (.ref d), some (.bl rh)] ∧ H l = some (.lst (V.str s :: ws)) ∧ H d = some (.lst (ns.map V.int)) ∧
  ∀ (H' : Hp) (r2 : Bool), Same H H' → r2 = r2Of s rh ns → (if r2 = true then D.nx [x0, x1, some (.ref l), some (.ref d), some (.bl r2)] H' else D.rt (.bl false) H')
theorem at_m1 {a b : V} : atI [a, b] (-1) = some b := rfl
section
variable {P : Program} {w : World} {K : PySem.W.Frag} {mg : Str → Option Value} {base : Heap} {CH : Addr} {Z : Cz}
def sp_lwr : Sp := fun vs H Q _ => ∃ x, vs = [.str x] ∧ x.length ≤ 10000 ∧ ∀ H', Same H H' → Q (.bl (J.rtOk x)) H'
theorem ok_lwr {f : Addr} {fd : FuncData} (F : Fun K "_law_writes" "_law_writes" s__law_writes f fd) (B : Bt mg) (hmin : mg "min" = none) (N : FnB P w K mg base 1 "_law_number" ["_law_text", "_law_most"] sp_lnum) : FnOk P w K mg base CX0 2 f fd ["_law_text"] sp_lwr := by
  refine F.ok sc__law_writes (fun vs H Q E h => ?_) (fun cdv A outer s H vs Q E hr h => ?_)
  · obtain ⟨x, rfl, _⟩ := h
    rfl
  · obtain ⟨x, rfl, hx, k⟩ := h
    have nd := sc__law_writes.nd
    have hu := hr.u20
    have hz : x.length ≤ sizeLine := by rw [sizeLine_eq]; omega
    refine ⟨_, pss_cons (ps_if (pt_cmpR op_eq (pv 0) pe_str (nomark _)) (pss_one (ps_ret pe_bl)) pss_nil)
      (pss_cons (ps_for PassesOwn.never rfl (pi_list (pe_split (pv 0) pe_str)) (pg_name (i := 1) nd rfl (Or.inl rfl))
        (pss_cons (ps_set (i := 2) nd rfl (Or.inl rfl) (pe_split (pv 1) pe_str))
        (pss_cons (ps_lc (i := 3) sc__law_writes [] nd rfl rfl (pi_list (pe_slice sl_list (pv 2) (po_some pe_int) po_none)) (fun _ _ _ _ _ _ => ⟨pif_nil, pe_fn N hr (pa_cons (pv 0) (pa_cons pe_int pa_nil))⟩))
        (pss_cons (ps_set (i := 4) nd rfl (Or.inl rfl) (PE.weak (t' := tPour K) (pe_and (pe_cmpR op_eq (pe_ix ix_list (pv 2) pe_int (by intro _ _; rfl)) pe_str (nomark _)) (pe_and (pe_cmpR op_eq (pe_callB call_len_seq (by rfl) B.len PySem.boot_len (pa_cons (pv 3) pa_nil)) pe_int (nomark _))
          (pe_and (pe_cmpR op_ge (pe_callB (call_minL rfl) (by rfl) hmin bt_min (pa_cons (pv 3) pa_nil)) pe_int (nomark _)) (pe_one (pe_cmpR op_ne (pe_ix ix_list (pv 3) pe_int (by intro _ _; rfl)) (pe_ix ix_list (pv 3) (pe_un un_neg pe_int) (by intro _ _; rfl)) (nomark _)))))) ?pour))
        (PSs.weak (t' := tTail K) (pss_cons (ps_if (PW.pt (pw_and (pt_cmpR (op_inD hu) (pe_ix ix_list (pv 2) pe_int (by intro _ _; rfl)) (pe_tup (pa_cons pe_str (pa_cons pe_str pa_nil))) (by rfl)) (pw_and1 (pt_cmpR op_eq (pe_callB call_len_seq (by rfl) B.len PySem.boot_len (pa_cons (pv 3) pa_nil)) pe_int (nomark _)))))
          (pss_one (ps_set (i := 4) nd rfl (Or.inl rfl) (pe_cmpR op_ge (pe_ix ix_list (pv 3) pe_int (by intro _ _; rfl)) pe_int (nomark _)))) pss_nil)
        (pss_one (ps_if (pt_not (pt_val (pv 4))) (pss_one (ps_ret pe_bl)) pss_nil))) ?tail)))))
      (pss_one (ps_ret pe_bl))), ?_⟩
    case pour =>
      rintro σ H Q ⟨s', ws, ns, l, d, h2, h3, hl, hd, q⟩
      refine ⟨_, h2, l, _, 0, _, rfl, rfl, SqL.of hl, at_0, rfl, _, rfl, ?_⟩
      rw [dec_strs]
      by_cases c : s' = "pour"
      · rw [decide_eq_true c]
        rw [decide_eq_true c, Bool.true_and] at q
        refine iteT ⟨_, h3, d, _, rfl, .inl (SqL.of hd), rfl, _, rfl, ?_⟩
        have no : ns.length ≠ 2 → (if decide (V.int ((ns.map V.int).length : Nat) = V.int 2) = true then True else False) → False := fun h z => by
          rw [decide_eq_false (by rw [List.length_map]; intro z; injection z with z; exact h (by omega))] at z
          exact z
        match ns, hd, q with
        | [a, b], hd, q =>
          refine iteT ⟨_, h3, d, [a, b], rfl, SqL.of hd, by show 0 < 2; decide, fun M hM hmn => ⟨_, _, rfl, rfl, _, rfl, ?_⟩⟩
          have q : Q (.bl (decide (0 ≤ a) && decide (0 ≤ b) && decide (a ≠ b))) H := q
          have ha := hmn a (by simp)
          have hb := hmn b (by simp)
          by_cases hM0 : 0 ≤ M
          · rw [decide_eq_true hM0]
            rw [decide_eq_true (by omega : 0 ≤ a), decide_eq_true (by omega : 0 ≤ b), Bool.true_and, Bool.true_and] at q
            refine iteT ⟨_, h3, d, _, 0, _, rfl, rfl, SqL.of hd, at_0, _, h3, _, rfl, d, _, -1, _, rfl, rfl, SqL.of hd, at_m1, rfl, ?_⟩
            have e : (!decide (V.int a = V.int b)) = decide (a ≠ b) := by
              rw [Bool.eq_iff_iff]; simp
            rw [e]; exact q
          · rw [decide_eq_false hM0]
            refine iteF ?_
            have : (decide (0 ≤ a) && decide (0 ≤ b) && decide (a ≠ b)) = false := by
              have hm : M = a ∨ M = b := by simpa using hM
              rcases hm with rfl | rfl
              · rw [decide_eq_false hM0]; rfl
              · rw [decide_eq_false hM0, Bool.and_false]; rfl
            rw [this] at q
            exact q
        | [], hd, q => exact iteF q
        | [a], hd, q => exact iteF q
        | a :: b :: c :: r, hd, q =>
          rw [decide_eq_false (by rw [List.length_map]; intro z; injection z with z; simp at z; omega)]
          exact iteF q
      · rw [decide_eq_false c]
        rw [decide_eq_false c, Bool.false_and] at q
        exact iteF q
    case tail =>
      rintro D σ H ⟨s', ws, ns, l, d, rh, x0, x1, rfl, hl, hd, q⟩
      refine ⟨_, rfl, l, _, 0, _, rfl, rfl, SqL.of hl, at_0, ?_⟩
      refine ⟨(by show 2 ≤ sizeLine; decide), fun t nt => ⟨Str, inferInstance, isS, t, _, ["fill", "empty"], s', rfl, EqR.str, .inr (SqT.of upd_same), pStrs ["fill", "empty"], rfl, _, rfl, ?_⟩⟩
      have st : Same H (upd H t (.tup [V.str "fill", V.str "empty"])) := Same.new nt
      have hd' := st _ _ hd
      have q := fun r2 => q _ r2 st
      generalize upd H t (.tup [V.str "fill", V.str "empty"]) = H' at hd' q ⊢
      have last : ∀ r2 : Bool, r2 = r2Of s' rh ns → (if (!r2) = true then D.rt (.bl false) H' else D.nx [x0, x1, some (.ref l), some (.ref d), some (.bl r2)] H') := fun r2 h => by
        have := q r2 h
        cases r2 with
        | true => exact iteF (by rw [if_pos rfl] at this; exact this)
        | false => exact iteT (by rw [if_neg (by decide)] at this; exact this)
      rw [if_neg (show ¬ (false = true) by decide)]
      by_cases c : s' = "fill" ∨ s' = "empty"
      · rw [decide_eq_true (by simpa using c)]
        refine iteT ⟨_, rfl, d, _, rfl, .inl (SqL.of hd'), rfl, _, rfl, ?_⟩
        match ns, hd', last with
        | [a], hd', last =>
          refine iteT ⟨_, rfl, d, _, 0, _, rfl, rfl, SqL.of hd', at_0, _, _, rfl, rfl, ?_⟩
          exact ⟨_, rfl, _, rfl, last _ (if_pos c).symm⟩
        | [], hd', last => exact iteF ⟨_, rfl, _, rfl, last rh rfl⟩
        | a :: b :: r, hd', last =>
          rw [decide_eq_false (by rw [List.length_map]; intro z; injection z with z; simp at z; omega)]
          exact iteF ⟨_, rfl, _, rfl, last rh rfl⟩
      · rw [decide_eq_false (by simpa using c)]
        refine iteF (iteF ⟨_, rfl, _, rfl, last rh ?_⟩)
        match ns with
        | [a] => exact (if_neg c).symm
        | [] => rfl
        | a :: b :: r => rfl
    refine ⟨_, rfl, rfl, _, rfl, ?_⟩
    rw [dec_strs]
    by_cases h0 : x = ""
    · rw [decide_eq_true h0]
      refine iteT ?_
      have := k H (Same.refl _)
      unfold J.rtOk at this
      rw [decide_eq_true h0, Bool.true_or] at this
      exact this
    rw [decide_eq_false h0]
    refine iteF ?_
    have sl : (Txt.split x "; ").length ≤ x.length + 2 := PyProof.Rows.split_le x "; "
    refine ⟨_, rfl, rfl, x, "; ", rfl, rfl, by decide +kernel, hz, by rw [sizeLine_eq]; omega, fun r nr => ⟨r, rfl, ⟨_, SqL.of upd_same⟩, ?_⟩⟩
    have hrt : J.rtOk x = (Txt.split x "; ").all fun p => (J.mvOf p).isSome := by
      unfold J.rtOk
      rw [decide_eq_false h0, Bool.false_or]
    have short : ∀ p ∈ Txt.split x "; ", p.length ≤ x.length := fun p hp => PyProof.Rows.part_short hp
    generalize hps : Txt.split x "; " = ps at sl hrt short ⊢
    have s1 : Same H (upd H r (.lst (ps.map V.str))) := Same.new nr
    have er : (upd H r (.lst (ps.map V.str))) r = some (.lst (ps.map V.str)) := upd_same
    generalize upd H r (.lst (ps.map V.str)) = H1 at s1 er ⊢
    refine for_list (K := K) (a := r) (xs := ps.map V.str) (fun i σ H' => (∃ a b c d, σ = [some (.str x), a, b, c, d]) ∧ Same H1 H' ∧ ∀ p ∈ ps.take i, (J.mvOf p).isSome = true)
      ⟨⟨none, none, none, none, rfl⟩, Same.refl _, fun p h => (by simp at h)⟩ (fun i σ H' _ ⟨_, e, _⟩ => SqL.of (e _ _ er)) ?_ ?_
    · rintro i v σ H2 hv ⟨⟨a, b, c, d, rfl⟩, sm, ih⟩
      rw [List.getElem?_map] at hv
      obtain ⟨p, hp', rfl⟩ : ∃ u, ps[i]? = some u ∧ v = V.str u := by
        cases e : ps[i]? with
        | none => rw [e] at hv; cases hv
        | some u => rw [e] at hv; cases hv; exact ⟨u, rfl, rfl⟩
      have hm := List.mem_of_getElem? hp'
      have hpl := short p hm
      have slp : (J.wds p).length ≤ p.length + 2 := PyProof.Rows.split_le p " "
      have spp : 1 ≤ (J.wds p).length := PyProof.Rows.split_pos p " "
      refine ⟨_, rfl, rfl, p, " ", rfl, rfl, by decide +kernel, (by rw [sizeLine_eq]; omega), (by show (J.wds p).length ≤ _; rw [sizeLine_eq]; omega), fun l nl => ?_⟩
      have ew : Txt.split p " " = J.wds p := rfl
      rw [ew]
      obtain ⟨sd, ws, hw⟩ : ∃ sd ws, J.wds p = sd :: ws := by
        match h : J.wds p, spp with
        | a :: b, _ => exact ⟨a, b, rfl⟩
      have hmv := right_mv hw
      have wsl : ∀ u ∈ ws, u.length ≤ p.length := fun u hu => PyProof.Rows.part_short (y := " ") (by show u ∈ J.wds p; rw [hw]; exact List.mem_cons_of_mem _ hu)
      rw [hw] at slp ⊢
      have wl : ws.length ≤ p.length + 1 := by simp at slp; omega
      have e1 : (upd H2 l (.lst ((sd :: ws).map V.str))) l = some (.lst ((sd :: ws).map V.str)) := upd_same
      have s2 : Same H1 (upd H2 l (.lst ((sd :: ws).map V.str))) := sm.lay nl
      generalize upd H2 l (.lst ((sd :: ws).map V.str)) = H3 at e1 s2 ⊢
      have c2 : cutV ((sd :: ws).map V.str) (some 1) none = ws.map V.str := by
        rw [show (some (1 : Int)) = some ((1 : Nat) : Int) from rfl, cut_drop 1]; rfl
      refine ⟨_, rfl, _, rfl, l, _, rfl, SqL.of e1, fun q nq => ⟨q, rfl, ⟨_, SqL.of upd_same⟩, ?_⟩⟩
      rw [c2]
      have s4 : Same H1 (upd H3 q (.lst (ws.map V.str))) := s2.lay nq
      have e4 := (Same.new (o := .lst (ws.map V.str)) nq) _ _ e1
      have eq : (upd H3 q (.lst (ws.map V.str))) q = some (.lst (ws.map V.str)) := upd_same
      generalize upd H3 q (.lst (ws.map V.str)) = H4 at s4 e4 eq ⊢
      refine lc_list (K := K) (a := q) (xs := ws.map V.str) (fun i ys H' => H' = H4 ∧ ys = (ws.take i).map (fun w => V.int (J.lawNum 3 w)))
        ⟨rfl, rfl⟩ (by rw [List.length_map, sizeLine_eq]; omega) (fun i ys H' ⟨_, e⟩ => by rw [e, List.length_map, List.length_take]; omega) (fun i ys H' _ ⟨e, _⟩ => by subst e; exact SqL.of eq) ?_ ?_
      · rintro j v ys H' hv' ⟨rfl, rfl⟩
        rw [List.getElem?_map] at hv'
        obtain ⟨u, hu', rfl⟩ : ∃ u, ws[j]? = some u ∧ v = V.str u := by
          cases e : ws[j]? with
          | none => rw [e] at hv'; cases hv'
          | some u => rw [e] at hv'; cases hv'; exact ⟨u, rfl, rfl⟩
        refine tYes_of ⟨_, rfl, u, 3, rfl, ?_, rfl, ?_⟩
        · have := wsl u (List.mem_of_getElem? hu'); omega
        · rw [List.take_add_one, hu', List.map_append]; rfl
      · rintro ys H' ⟨rfl, rfl⟩ e nd'
        have eys : (ws.take (ws.map V.str).length).map (fun w => V.int (J.lawNum 3 w)) = (ws.map (J.lawNum 3)).map V.int := by
          rw [List.length_map, List.take_of_length_le (Nat.le_refl _), List.map_map]; rfl
        rw [eys]
        have s5 := s4.lay (o := .lst ((ws.map (J.lawNum 3)).map V.int)) nd'
        have e5 := (Same.new (o := .lst ((ws.map (J.lawNum 3)).map V.int)) nd') _ _ e4
        have eE : (upd H' e (.lst ((ws.map (J.lawNum 3)).map V.int))) e = some (.lst ((ws.map (J.lawNum 3)).map V.int)) := upd_same
        generalize upd H' e (.lst ((ws.map (J.lawNum 3)).map V.int)) = H5 at s5 e5 eE ⊢
        refine ⟨sd, ws.map V.str, ws.map (J.lawNum 3), l, e, rfl, rfl, e5, eE, ?_⟩
        refine ⟨sd, ws.map V.str, ws.map (J.lawNum 3), l, e, _, _, _, rfl, e5, eE, fun H6 r2 s6 hr2 => ?_⟩
        have hfin : r2 = (J.mvOf p).isSome := by
          rw [hmv, hr2]
          generalize ws.map (J.lawNum 3) = ns
          match ns with
          | [] => simp [pourOk, rightOf, r2Of]
          | [a] =>
            show (if sd = "fill" ∨ sd = "empty" then decide (0 ≤ a) else (decide (sd = "pour") && false)) = ((decide (sd = "fill") || decide (sd = "empty")) && decide (0 ≤ a))
            by_cases c1 : sd = "fill"
            · rw [if_pos (.inl c1), decide_eq_true c1]; rfl
            · by_cases c2 : sd = "empty"
              · rw [if_pos (.inr c2), decide_eq_true c2, Bool.or_true]; rfl
              · rw [if_neg (fun z => z.elim c1 c2), decide_eq_false c1, decide_eq_false c2, Bool.and_false]; rfl
          | [a, b] =>
            show (decide (sd = "pour") && (decide (0 ≤ a) && decide (0 ≤ b) && decide (a ≠ b))) = (decide (sd = "pour") && decide (0 ≤ a) && decide (0 ≤ b) && decide (a ≠ b))
            simp only [Bool.and_assoc]
          | a :: b :: c :: r => simp [pourOk, rightOf, r2Of]
        cases r2 with
        | true =>
          rw [if_pos rfl]
          refine ⟨⟨_, _, _, _, rfl⟩, s5.trans s6, fun y hy => ?_⟩
          rw [List.take_add_one, hp', List.mem_append] at hy
          rcases hy with hy | hy
          · exact ih y hy
          · have : y = p := by simpa using hy
            rw [this]; exact hfin.symm
        | false =>
          rw [if_neg (by decide)]
          have := k H6 (s1.trans (s5.trans s6))
          have e : J.rtOk x = false := by
            rw [hrt, List.all_eq_false]
            exact ⟨p, hm, by rw [← hfin]; decide⟩
          rw [e] at this
          exact this
    · rintro σ H2 ⟨⟨a, b, c, d, rfl⟩, sm, ih⟩
      rw [List.length_map, List.take_length] at ih
      have := k H2 (s1.trans sm)
      have e : J.rtOk x = true := by
        rw [hrt, List.all_eq_true]; exact ih
      rw [e] at this
      exact this
end
end Jug

namespace Jug
open PySem L2
/-! ### refused -/
/-- the classes of errors -/
structure Tz where
  J : Addr
  T : Addr
  G : Addr
  B : Addr
  M : Addr
  S : Addr
structure TzC (K : PySem.W.Frag) (mg : Str → Option Value) (z : Tz) : Prop where
  xJ : XC K mg "JugError" z.J
  xT : XC K mg "BadText" z.T
  gG : mg "BadGoal" = some (.ref z.G)
  gB : mg "BadHouse" = some (.ref z.B)
  gM : mg "BadMove" = some (.ref z.M)
  gS : mg "BadState" = some (.ref z.S)
  gV : mg "ValueError" = none
  cl : ExcCls K z.T
  sub : subIn K z.T z.J = true
  kG : PySem.W.kitOne K (.ref z.T) (.ref z.G) = some false
  kB : PySem.W.kitOne K (.ref z.T) (.ref z.B) = some false
  kM : PySem.W.kitOne K (.ref z.T) (.ref z.M) = some false
  kS : PySem.W.kitOne K (.ref z.T) (.ref z.S) = some false
  kV : PySem.W.kitOne K (.ref z.T) (.type "ValueError") = some true
theorem bt_ValueError : bootBuiltins "ValueError" = some (.type "ValueError") := by decide +kernel
theorem bdN {CX : CXT} {P : Program} {w : World} {K : PySem.W.Frag} {mg : Str → Option Value} {base : Heap} {N : List Str} {qual : Str} {sc : Scope} {f : Addr} {cd : Value} {A : Around} {outer : List Env} {s : Shared} {H : Hp} {E : XK} : Body (cxOf CX P w K mg base N qual sc f cd A outer s H E).nox := ⟨rfl, rfl, rfl, fun _ => rfl⟩
theorem bt_any : bootBuiltins "any" = some (.builtin "any") := by decide +kernel
theorem call_isinstPK {X : Cx} (K : PySem.W.Frag) (hK : X.K = K) : CallR X (.builtin "isinstance") (fun xs H Q => ∃ x C o c cv b, xs = [.ref x, c] ∧ ClV c cv ∧ H x = some (xP C x o) ∧ ExcCls K C ∧ PySem.W.kitOne K (.ref C) cv = some b ∧ Q (.bl b) H) := by
  subst hK
  exact call_isinstP
theorem call_anyPK {X : Cx} {x : Addr} (K : PySem.W.Frag) (pn : List (Addr × Obj)) (hK : X.K = K) (hp : ∀ p ∈ pn, p ∈ X.pn) (hA : X.A.handled = some (.ref x)) : CallR X (.builtin "any") (fun xs H Q => ∃ (l : Addr) (bs : List Bool) (C : Addr) (o : Option Addr), xs = [.ref l] ∧ SqL K H l (bs.map V.bl) ∧ H x = some (xP C x o) ∧ CtxP x o pn ∧ Q (.bl (bs.any id)) H) := by
  subst hK
  intro pins s σ H xs us Q I r h
  obtain ⟨l, bs, C, o, h1, h2, h3, h4, q⟩ := h
  exact call_anyP hA pins s σ H xs us Q I r ⟨l, bs, C, o, h1, h2, h3, fun a ea => let ⟨oa, ws, y1, y2⟩ := h4 a ea; ⟨oa, ws, hp _ y1, y2⟩, q⟩
section
variable {P : Program} {w : World} {K : PySem.W.Frag} {mg : Str → Option Value} {base : Heap} {z : Tz}
/-- f refuses v, now and later -/
def Asks1 (P : Program) (w : World) (K : PySem.W.Frag) (mg : Str → Option Value) (base : Heap) (k : Nat) (z : Tz) (H : Hp) (f : Addr) (v : V) : Prop :=
  ∀ H1, Same H H1 → Fnal K H1 f ∧ ∀ Q E, (∀ o H', Same H1 H' → E (.ref z.T) o H') → Callee P w K mg base k f [v] H1 Q E
def sp_refused (P : Program) (w : World) (K : PySem.W.Frag) (mg : Str → Option Value) (base : Heap) (k : Nat) (z : Tz) : Sp := fun vs H Q _ => ∃ f v, vs = [.ref f, v] ∧ Asks1 P w K mg base k z H f v ∧ ∀ H', Same H H' → Q (.bl true) H'
theorem ok_refused {f : Addr} {fd : FuncData} {k : Nat} (F : Fun K "_law_refused" "_law_refused" s__law_refused f fd) (B : Bt mg) (ha : mg "any" = none) (X : TzC K mg z) : FnOk P w K mg base CX0 (k + 2) f fd ["_law_ask", "_law_text"] (sp_refused P w K mg base (k + 1) z) := by
  refine F.ok sc__law_refused (fun vs H Q E h => ?_) (fun cdv A outer s H vs Q E hr h => ?_)
  · obtain ⟨f, v, rfl, _⟩ := h
    rfl
  · obtain ⟨f, v, rfl, hk, kk⟩ := h
    have nd := sc__law_refused.nd
    refine ⟨_, pss_cons (ps_try_asP (i := 2) bdN (psx_expr (px_ask (i := 0) (k := k + 1) rfl (Or.inl rfl) hr (fun _ => pa_cons (pv 1) pa_nil))) X.xJ nd rfl rfl
      (fun x pn E' => pss_cons (ps_set (i := 3) nd rfl (Or.inl rfl) (pe_lst (pa_cons (pe_callB (call_isinstPK K (by rfl)) (by rfl) B.isinstance bt_isinstance (pa_cons (pv 2) (pa_cons (pe_glob (v := .ref z.G) (by rfl) X.gG rfl) pa_nil))) (pa_cons (pe_callB (call_isinstPK K (by rfl)) (by rfl) B.isinstance bt_isinstance (pa_cons (pv 2) (pa_cons (pe_glob (v := .ref z.B) (by rfl) X.gB rfl) pa_nil))) (pa_cons (pe_callB (call_isinstPK K (by rfl)) (by rfl) B.isinstance bt_isinstance (pa_cons (pv 2) (pa_cons (pe_glob (v := .ref z.M) (by rfl) X.gM rfl) pa_nil))) pa_nil)))))
        (pss_cons (ps_set (i := 3) nd rfl (Or.inl rfl) (pe_op op_cat (pv 3) (pe_lst (pa_cons (pe_callB (call_isinstPK K (by rfl)) (by rfl) B.isinstance bt_isinstance (pa_cons (pv 2) (pa_cons (pe_glob (v := .ref z.S) (by rfl) X.gS rfl) pa_nil))) (pa_cons (pe_not (pe_callB (call_isinstPK K (by rfl)) (by rfl) B.isinstance bt_isinstance (pa_cons (pv 2) (pa_cons (pe_bltn (v := .ty "ValueError") (by rfl) X.gV bt_ValueError rfl) pa_nil)))) pa_nil)))))
        (pss_one (ps_ret (pe_and (pe_callB (call_isinstPK K (by rfl)) (by rfl) B.isinstance bt_isinstance (pa_cons (pv 2) (pa_cons (pe_glob (v := .ref z.T) (by rfl) X.xT.g rfl) pa_nil))) (pe_one (pe_not (pe_callB (call_anyPK (x := x) K pn (by rfl) (fun p h => List.mem_append_left _ h) (by rfl)) (by rfl) ha bt_any (pa_cons (pv 3) pa_nil))))))))))
      pss_never, ?_⟩
    obtain ⟨fn, ca⟩ := hk H (Same.refl _)
    refine ⟨f, rfl, _, rfl, fn, ca _ _ fun o H' s' => ⟨z.T, rfl, X.xT.ex, X.sub, fun x pn hc hx => ?_⟩⟩
    have hx1 : (upd H' x (xP z.T x o)) x = some (xP z.T x o) := upd_same
    have s1 : Same H (upd H' x (xP z.T x o)) := s'.lay hx
    generalize upd H' x (xP z.T x o) = H1 at hx1 s1 ⊢
    refine ⟨_, rfl, x, z.T, o, _, _, _, rfl, .ref _, hx1, X.cl, X.kG, _, rfl, x, z.T, o, _, _, _, rfl, .ref _, hx1, X.cl, X.kB, _, rfl, x, z.T, o, _, _, _, rfl, .ref _, hx1, X.cl, X.kM, (by show 3 ≤ sizeLine; decide), fun l nl => ?_⟩
    have s2 : Same H1 (upd H1 l (.lst [.bl false, .bl false, .bl false])) := Same.new nl
    have el : (upd H1 l (.lst [.bl false, .bl false, .bl false])) l = some (.lst [.bl false, .bl false, .bl false]) := upd_same
    have hx2 := s2 _ _ hx1
    have s3 := s1.trans s2
    generalize upd H1 l (.lst [.bl false, .bl false, .bl false]) = H2 at el hx2 s3 ⊢
    refine ⟨_, rfl, _, rfl, x, z.T, o, _, _, _, rfl, .ref _, hx2, X.cl, X.kS, _, rfl, x, z.T, o, _, _, _, rfl, .ty "ValueError", hx2, X.cl, X.kV, _, rfl, (by show 2 ≤ sizeLine; decide), fun m nm => ?_⟩
    have s4 := (Same.new (o := .lst [.bl false, .bl (!true)]) nm)
    refine ⟨l, m, _, _, rfl, rfl, s4 _ _ el, upd_same, (by show 5 ≤ sizeLine; decide), fun p np => ?_⟩
    have s5 := s4.lay (o := .lst ([.bl false, .bl false, .bl false] ++ [.bl false, .bl (!true)])) np
    refine ⟨_, rfl, x, z.T, o, _, _, _, rfl, .ref _, s5 _ _ hx2, X.cl, kit_self z.T, _, rfl, iteT ?_⟩
    refine ⟨_, rfl, p, [false, false, false, false, false], z.T, o, rfl, SqL.of upd_same, s5 _ _ hx2, hc, _, rfl, kk _ (s3.trans s5)⟩
end
end Jug

namespace Jug
open PySem L2
/-! ### right -/
theorem pI7 : ∀ st : List Int, Paired isI (st.map V.int) st
  | [] => .nil
  | _ :: st => .cons rfl (pI7 st)
theorem rcL7 {X : Cx} {H : Hp} {a b : Addr} {s t : List Int} (ha : H a = some (.lst (s.map V.int))) (hb : H b = some (.lst (t.map V.int))) : RcD X H 20 (.ref a) (.ref b) (decide (s = t)) :=
  (EqR.lst (d := 19) EqR.int).rc _ _ s t ⟨a, _, rfl, SqL.of ha, pI7 s⟩ ⟨b, _, rfl, SqL.of hb, pI7 t⟩
theorem passNo {X : Cx} : Passes (CX1 X.prog X.w) X (fun _ _ _ => False) := by
  intro pins σ H s e s' I h
  obtain ⟨x, C, H', B, o, rfl, os, bare, un, hok, hx, fl, cH, c, ck, he⟩ := h
  exact he.elim
section
variable {P : Program} {w : World} {K : PySem.W.Frag} {mg : Str → Option Value} {base : Heap} {CH : Addr} {Z : Cz} {z : Tz}
theorem Asks1.of {k j : Nat} {H : Hp} {f : Addr} {fd : FuncData} {ps : List Str} {sp : Sp} {v : V} (F : FnOk P w K mg base (CX1 P w) j f fd ps sp) (hj : j ≤ k) (hk : PySem.W.keepIn K (.ref f) = true) (hb : Binds K fd ps [])
    (h : ∀ H1, Same H H1 → ∀ Q E, (∀ o H', Same H1 H' → E (.ref z.T) o H') → sp [v] H1 Q E) : Asks1 P w K mg base k z H f v := fun H1 s1 => ⟨.inl hk, fun Q E hE => .of (F.mono hj) hb (h H1 s1 Q E hE)⟩
def sp_right : Sp := fun vs H Q _ => ∃ x, vs = [.str x] ∧ x.length ≤ 9000 ∧ ∀ H', Same H H' → Q (.bl true) H'
theorem ok_right {f : Addr} {fd : FuncData} (F : Fun K "_law_right" "_law_right" s__law_right f fd) (C : CHs K CH) (HI : FnB P w K mg base 2 "_law_house_in" ["_law_text"] sp_lhs) (WR : FnB P w K mg base 2 "_law_writes" ["_law_text"] sp_lwr) (RE : FnB P w K mg base 9 "_law_refused" ["_law_ask", "_law_text"] (sp_refused P w K mg base 8 z))
    (HO : FnX P w K mg base 5 "house_of" ["text"] (sp_house_of CH z.T)) (RO : FnX P w K mg base 8 "routine_of" ["text"] (sp_routine_of Z z.T)) (ST : MeB P w K mg base 1 CH "sizes" ["self"] (sp_sizes CH)) (HT : FnB P w K mg base 2 "house_text" ["house"] (sp_house_text CH)) (RT : FnB P w K mg base 2 "routine_text" ["moves"] (sp_routine_text Z)) :
    FnOk P w K mg base CX0 10 f fd ["_law_text"] sp_right := by
  obtain ⟨fh, fdh, Fh, mh, kh, bh⟩ := id HO
  obtain ⟨fr, fdr, Fr, mr, kr, br⟩ := id RO
  refine F.ok sc__law_right (fun vs H Q E h => ?_) (fun cdv A outer s H vs Q E hr h => ?_)
  · obtain ⟨x, rfl, _⟩ := h
    rfl
  · obtain ⟨x, rfl, hx, k⟩ := h
    have nd := sc__law_right.nd
    have hr1 : Room 1 _ := hr.mono (by decide)
    have hr2 : Room 2 _ := hr.mono (by decide)
    have hr5 : Room 5 _ := hr.mono (by decide)
    have hr8 : Room 8 _ := hr.mono (by decide)
    have hu := hr.u20
    refine ⟨_, pss_cons (ps_set (i := 1) nd rfl (Or.inl rfl) (pe_fn HI hr2 (pa_cons (pv 0) pa_nil)))
      (pss_cons (ps_if (pt_cmp (pc_isN (pv 1)))
        (pss_one (ps_if (pt_not (pt_val (pe_fn RE hr (pa_cons (pe_glob (v := .ref fh) (by rfl) mh rfl) (pa_cons (pv 0) pa_nil))))) (pss_one (ps_ret pe_bl)) pss_nil))
        (pss_cons (ps_set (i := 2) nd rfl (Or.inl rfl) (pe_fnC passNo HO hr5 (pa_cons (pv 0) pa_nil)))
        (pss_one (ps_if (PW.pt (pw_or (pt_cmpR (op_neD hu) (pe_me0 ST (pv 2) hr1) (pe_ix ix_tup (pv 1) pe_int (by intro _ _; rfl)) (nomark _)) (pw_or (pt_cmpR op_ne (pe_fld (pv 2) rfl) (pe_ix ix_tup (pv 1) pe_int (by intro _ _; rfl)) (nomark _)) (pw_or1 (pt_cmpR op_ne (pe_fn HT hr2 (pa_cons (pv 2) pa_nil)) (pv 0) (nomark _)))))) (pss_one (ps_ret pe_bl)) pss_nil))))
      (pss_cons (ps_if (pt_not (pt_val (pe_fn WR hr2 (pa_cons (pv 0) pa_nil)))) (pss_one (ps_ret (pe_fn RE hr (pa_cons (pe_glob (v := .ref fr) (by rfl) mr rfl) (pa_cons (pv 0) pa_nil))))) pss_nil)
      (pss_one (ps_ret (pe_cmpR op_eq (pe_fn RT hr2 (pa_cons (pe_fnC passNo RO hr8 (pa_cons (pv 0) pa_nil)) pa_nil)) (pv 0) (nomark _)))))), ?_⟩
    have rest : ∀ (a b : Option V) (H1 : Hp), Same H H1 → tSeq (tIfS (tNot (tB (tCall sp_lwr [] E0 (tCons (tVar 0) tNil)))) (tRet (tCall (sp_refused P w K mg base 8 z) [] E0 (tCons (tC (.ref fr)) (tCons (tVar 0) tNil)))) tNext)
        (tRet (tOp rEq (tCall (sp_routine_text Z) [] E0 (tCons (tCall (sp_routine_of Z z.T) [] (fun _ _ _ => False) (tCons (tVar 0) tNil)) tNil)) (tVar 0))) { nx := fun x H' => Q V.non H', rt := Q } [some (.str x), a, b] H1 := fun a b H1 s1 => by
      refine ⟨_, rfl, x, rfl, by omega, fun H2 s2 => ⟨_, rfl, ?_⟩⟩
      cases hrt : J.rtOk x with
      | false =>
        refine iteT ⟨_, rfl, fr, .str x, rfl, Asks1.of Fr (Nat.le_refl _) kr br (fun H3 s3 Q' E' hE => ⟨x, rfl, by omega, (fun h => by rw [hrt] at h; cases h), fun _ o H' s' => hE o H' s'⟩), fun H3 s3 => k H3 ((s1.trans s2).trans s3)⟩
      | true =>
        refine iteF ⟨_, rfl, x, rfl, by omega, (fun _ l xs ms H3 s3 nl el pm hl hg hj => ⟨l, xs, ms, rfl, el, pm, hg, by omega, fun H4 s4 => ⟨_, rfl, rfl, ?_⟩⟩), (fun h => by rw [hrt] at h; cases h)⟩
        rw [decide_eq_true (by rw [hj])]
        exact k H4 (((s1.trans s2).trans s3).trans s4)
    refine ⟨_, rfl, x, rfl, by omega, (fun hb H1 s1 => ?_), (fun hg t l H1 s1 et el => ?_)⟩
    · refine ⟨_, rfl, _, rfl, iteT ?_⟩
      refine ⟨_, rfl, fh, .str x, rfl, Asks1.of Fh (by decide) kh bh (fun H3 s3 Q' E' hE => ⟨x, rfl, by omega, (fun h => by rw [hb] at h; cases h), fun _ o H' s' => hE o H' s'⟩), fun H3 s3 => ⟨_, rfl, iteF ?_⟩⟩
      exact rest _ _ H3 (s1.trans s3)
    · refine ⟨_, rfl, _, rfl, iteF ?_⟩
      refine ⟨_, rfl, x, rfl, by omega, (fun _ p H2 s2 hh => ?_), (fun h => by rw [hg] at h; cases h)⟩
      obtain ⟨dx, tt, hp, htt⟩ := id hh
      have hz : Hz (J.szW x) := by
        have h := hg
        unfold J.hsOk at h
        simp only [Bool.and_eq_true] at h
        obtain ⟨a1, a2, a3, a4⟩ := J.hz_all h.2
        exact ⟨a1, a2, a3, a4⟩
      refine ⟨_, rfl, p, dx, _, rfl, hp, hF_no _ _ (by decide +kernel) (by decide +kernel), p, J.szW x, J.tapW x, rfl, hh, fun r nr => ?_⟩
      have s3 : Same H2 (upd H2 r (.lst ((J.szW x).map V.int))) := Same.new nr
      refine ⟨_, rfl, t, _, 0, _, rfl, rfl, SqT.of (s3 _ _ (s2 _ _ et)), at_0, _, rcL7 (s := J.szW x) (t := J.szW x) upd_same (s3 _ _ (s2 _ _ el)), _, rfl, ?_⟩
      rw [decide_eq_true rfl]
      refine iteF ?_
      refine ⟨_, rfl, p, CH, dx, _, _, rfl, s3 _ _ hp, C.cl, C.tap, hF_tap _ _, _, rfl, t, _, 1, _, rfl, rfl, SqT.of (s3 _ _ (s2 _ _ et)), rfl, rfl, _, rfl, ?_⟩
      rw [decide_eq_true rfl]
      refine iteF ?_
      refine ⟨_, rfl, p, J.szW x, J.tapW x, rfl, hh.mono s3, hz, fun H4 s4 => ⟨_, rfl, rfl, _, rfl, ?_⟩⟩
      rw [decide_eq_true (by rw [J.hs_rt hg])]
      exact iteF (rest _ _ H4 (((s1.trans s2).trans s3).trans s4))
end
end Jug

namespace Jug
open PySem L2
/-! ### a few texts -/
/-- texts, none too long -/
def Txts (xs : List V) : Prop := ∀ v ∈ xs, ∃ s : Str, v = .str s ∧ s.length ≤ 9000
theorem Txts.app {xs ys : List V} (h : Txts xs) (h' : Txts ys) : Txts (xs ++ ys) := fun v hv => (List.mem_append.mp hv).elim (h v) (h' v)
theorem Txts.nil : Txts [] := fun v h => by simp at h
theorem Txts.cons {s : Str} {xs : List V} (h : s.length ≤ 9000) (h' : Txts xs) : Txts (.str s :: xs) := fun v hv => by
  rcases List.mem_cons.mp hv with rfl | hv
  · exact ⟨s, rfl, h⟩
  · exact h' v hv
section
variable {P : Program} {w : World} {K : PySem.W.Frag} {mg : Str → Option Value} {base : Heap}
def sp_few : Sp := fun vs H Q _ => vs = [] ∧ ∀ l xs H', Same H H' → H' l = some (.lst xs) → Txts xs → xs.length ≤ 100 → Q (.ref l) H'
theorem ok_few {f : Addr} {fd : FuncData} (F : Fun K "_law_few" "_law_few" s__law_few f fd) : FnOk P w K mg base CX0 1 f fd [] sp_few := by
  refine F.ok sc__law_few (fun vs H Q E h => ?_) (fun cdv A outer s H vs Q E hr h => ?_)
  · obtain ⟨rfl, _⟩ := h
    rfl
  · obtain ⟨rfl, k⟩ := h
    have nd := sc__law_few.nd
    refine ⟨_, ((@pss_cons _ _ _ _ _ (@ps_set _ _ 0 _ _ _ _ nd rfl (Or.inl rfl) (@pe_lst _ _ _ _ (@pa_cons _ _ _ _ _ (@pe_str _ _ _ _) (@pa_cons _ _ _ _ _ (@pe_str _ _ _ _) (@pa_cons _ _ _ _ _ (@pe_str _ _ _ _) (@pa_cons _ _ _ _ _ (@pe_str _ _ _ _) (@pa_cons _ _ _ _ _ (@pe_str _ _ _ _) (@pa_cons _ _ _ _ _ (@pe_str _ _ _ _) (@pa_cons _ _ _ _ _ (@pe_str _ _ _ _) (@pa_cons _ _ _ _ _ (@pe_str _ _ _ _) (@pa_cons _ _ _ _ _ (@pe_str _ _ _ _) (@pa_cons _ _ _ _ _ (@pe_str _ _ _ _) (@pa_nil _) rfl) rfl) rfl) rfl) rfl) rfl) rfl) rfl) rfl) rfl)) rfl (Or.inl rfl)) (@pss_cons _ _ _ _ _ (@ps_set _ _ 0 _ _ _ _ nd rfl (Or.inl rfl) (@pe_op _ _ _ _ _ _ _ _ op_cat (pv 0) (@pe_lst _ _ _ _ (@pa_cons _ _ _ _ _ (@pe_str _ _ _ _) (@pa_cons _ _ _ _ _ (@pe_str _ _ _ _) (@pa_cons _ _ _ _ _ (@pe_str _ _ _ _) (@pa_cons _ _ _ _ _ (@pe_str _ _ _ _) (@pa_cons _ _ _ _ _ (@pe_str _ _ _ _) (@pa_cons _ _ _ _ _ (@pe_str _ _ _ _) (@pa_cons _ _ _ _ _ (@pe_str _ _ _ _) (@pa_nil _) rfl) rfl) rfl) rfl) rfl) rfl) rfl))) rfl (Or.inl rfl)) (@pss_cons _ _ _ _ _ (@ps_set _ _ 0 _ _ _ _ nd rfl (Or.inl rfl) (@pe_op _ _ _ _ _ _ _ _ op_cat (pv 0) (@pe_lst _ _ _ _ (@pa_cons _ _ _ _ _ (@pe_str _ _ _ _) (@pa_cons _ _ _ _ _ (@pe_str _ _ _ _) (@pa_cons _ _ _ _ _ (@pe_str _ _ _ _) (@pa_cons _ _ _ _ _ (@pe_str _ _ _ _) (@pa_cons _ _ _ _ _ (@pe_str _ _ _ _) (@pa_cons _ _ _ _ _ (@pe_str _ _ _ _) (@pa_nil _) rfl) rfl) rfl) rfl) rfl) rfl))) rfl (Or.inl rfl)) (@pss_cons _ _ _ _ _ (@ps_set _ _ 0 _ _ _ _ nd rfl (Or.inl rfl) (@pe_op _ _ _ _ _ _ _ _ op_cat (pv 0) (@pe_lst _ _ _ _ (@pa_cons _ _ _ _ _ (@pe_str _ _ _ _) (@pa_cons _ _ _ _ _ (@pe_str _ _ _ _) (@pa_cons _ _ _ _ _ (@pe_str _ _ _ _) (@pa_nil _) rfl) rfl) rfl))) rfl (Or.inl rfl)) (@pss_cons _ _ _ _ _ (@ps_set _ _ 0 _ _ _ _ nd rfl (Or.inl rfl) (@pe_op _ _ _ _ _ _ _ _ op_cat (pv 0) (@pe_lst _ _ _ _ (@pa_cons _ _ _ _ _ (@pe_str _ _ _ _) (@pa_cons _ _ _ _ _ (@pe_str _ _ _ _) (@pa_cons _ _ _ _ _ (@pe_str _ _ _ _) (@pa_cons _ _ _ _ _ (@pe_str _ _ _ _) (@pa_cons _ _ _ _ _ (@pe_str _ _ _ _) (@pa_cons _ _ _ _ _ (@pe_str _ _ _ _) (@pa_cons _ _ _ _ _ (@pe_str _ _ _ _) (@pa_cons _ _ _ _ _ (@pe_str _ _ _ _) (@pa_cons _ _ _ _ _ (@pe_str _ _ _ _) (@pa_nil _) rfl) rfl) rfl) rfl) rfl) rfl) rfl) rfl) rfl))) rfl (Or.inl rfl)) (@pss_cons _ _ _ _ _ (@ps_set _ _ 0 _ _ _ _ nd rfl (Or.inl rfl) (@pe_op _ _ _ _ _ _ _ _ op_cat (pv 0) (@pe_lst _ _ _ _ (@pa_cons _ _ _ _ _ (@pe_str _ _ _ _) (@pa_cons _ _ _ _ _ (@pe_str _ _ _ _) (@pa_cons _ _ _ _ _ (@pe_str _ _ _ _) (@pa_cons _ _ _ _ _ (@pe_str _ _ _ _) (@pa_cons _ _ _ _ _ (@pe_str _ _ _ _) (@pa_cons _ _ _ _ _ (@pe_str _ _ _ _) (@pa_cons _ _ _ _ _ (@pe_str _ _ _ _) (@pa_nil _) rfl) rfl) rfl) rfl) rfl) rfl) rfl))) rfl (Or.inl rfl)) (@pss_cons _ _ _ _ _ (@ps_set _ _ 0 _ _ _ _ nd rfl (Or.inl rfl) (@pe_op _ _ _ _ _ _ _ _ op_cat (pv 0) (@pe_lst _ _ _ _ (@pa_cons _ _ _ _ _ (@pe_op _ _ _ _ _ _ _ _ op_add_str (@pe_str _ _ _ _) (@pe_op _ _ _ _ _ _ _ _ op_rep_str (@pe_str _ _ _ _) (@pe_int _ _ _ _))) (@pa_cons _ _ _ _ _ (@pe_op _ _ _ _ _ _ _ _ op_add_str (@pe_str _ _ _ _) (@pe_op _ _ _ _ _ _ _ _ op_rep_str (@pe_str _ _ _ _) (@pe_int _ _ _ _))) (@pa_nil _) rfl) rfl))) rfl (Or.inl rfl)) (@pss_one _ _ _ (@ps_ret _ _ _ _ (@pe_op _ _ _ _ _ _ _ _ op_cat (pv 0) (@pe_lst _ _ _ _ (@pa_cons _ _ _ _ _ (@pe_str _ _ _ _) (@pa_cons _ _ _ _ _ (@pe_str _ _ _ _) (@pa_cons _ _ _ _ _ (@pe_str _ _ _ _) (@pa_cons _ _ _ _ _ (@pe_str _ _ _ _) (@pa_cons _ _ _ _ _ (@pe_str _ _ _ _) (@pa_nil _) rfl) rfl) rfl) rfl) rfl))))))))))))), ?_⟩
    have sz : ∀ n, n ≤ 10000 → n ≤ sizeLine := fun n h => by rw [sizeLine_eq]; omega
    -- one more list of texts
    have cat : ∀ (ys : List V) (H1 : Hp) (l : Addr) (xs : List V) (R : VK), Same H H1 → H1 l = some (.lst xs) → Txts xs → xs.length ≤ 90 → ys.length ≤ 10 → Txts ys → (∀ p H2, Same H H2 → H2 p = some (.lst (xs ++ ys)) → Txts (xs ++ ys) → R (.ref p) H2) →
        ys.length ≤ sizeLine ∧ ∀ b, H1 b = none → rCat (.ref l) (.ref b) (upd H1 b (.lst ys)) R := fun ys H1 l xs R s1 el tx h1 h2 ty hR => by
      refine ⟨sz _ (by omega), fun b nb => ?_⟩
      have s2 : Same H1 (upd H1 b (.lst ys)) := Same.new nb
      exact ⟨l, b, xs, ys, rfl, rfl, s2 _ _ el, upd_same, sz _ (by omega), fun p np => hR p _ ((s1.trans s2).lay np) upd_same (tx.app ty)⟩
    refine ⟨(by show 10 ≤ sizeLine; decide), fun l0 n0 => ?_⟩
    have t0 : Txts [V.str "", V.str " ", V.str "jugs", V.str "jugs ", V.str "jugs tap", V.str "jugs 0", V.str "jugs 61", V.str "jugs 60", V.str "jugs 05", V.str "jugs 3  5"] := by
      repeat (first | exact Txts.nil | refine Txts.cons (by decide +kernel) ?_)
    refine ⟨_, rfl, cat _ _ l0 _ _ (Same.new n0) upd_same t0 (by show 10 ≤ 90; decide) (by show 7 ≤ 10; decide) (by repeat (first | exact Txts.nil | refine Txts.cons (by decide +kernel) ?_)) fun p1 H1 s1 e1 t1 => ?_⟩
    refine ⟨_, rfl, cat _ _ p1 _ _ s1 e1 t1 (by show 17 ≤ 90; decide) (by show 6 ≤ 10; decide) (by repeat (first | exact Txts.nil | refine Txts.cons (by decide +kernel) ?_)) fun p2 H2 s2 e2 t2 => ?_⟩
    refine ⟨_, rfl, cat _ _ p2 _ _ s2 e2 t2 (by show 23 ≤ 90; decide) (by show 3 ≤ 10; decide) (by repeat (first | exact Txts.nil | refine Txts.cons (by decide +kernel) ?_)) fun p3 H3 s3 e3 t3 => ?_⟩
    refine ⟨_, rfl, cat _ _ p3 _ _ s3 e3 t3 (by show 26 ≤ 90; decide) (by show 9 ≤ 10; decide) (by repeat (first | exact Txts.nil | refine Txts.cons (by decide +kernel) ?_)) fun p4 H4 s4 e4 t4 => ?_⟩
    refine ⟨_, rfl, cat _ _ p4 _ _ s4 e4 t4 (by show 35 ≤ 90; decide) (by show 7 ≤ 10; decide) (by repeat (first | exact Txts.nil | refine Txts.cons (by decide +kernel) ?_)) fun p5 H5 s5 e5 t5 => ?_⟩
    have j5 : ("jugs " : Str).length = 5 := by decide +kernel
    have f5 : ("fill " : Str).length = 5 := by decide +kernel
    refine ⟨_, rfl, "9", 4000, rfl, rfl, by decide, by decide, by decide +kernel, fun z1 hz1 => ⟨_, _, rfl, rfl, sz _ (by rw [j5, hz1]; decide), "1", 4000, rfl, rfl, by decide, by decide, by decide +kernel, fun z2 hz2 => ⟨_, _, rfl, rfl, sz _ (by rw [f5, hz2]; decide), ?_⟩⟩⟩
    refine cat _ _ p5 _ _ s5 e5 t5 (by show 42 ≤ 90; decide) (by show 2 ≤ 10; decide) (Txts.cons (by rw [Str.length_append, j5, hz1]; decide) (Txts.cons (by rw [Str.length_append, f5, hz2]; decide) Txts.nil)) fun p6 H6 s6 e6 t6 => ?_
    refine ⟨_, rfl, cat _ _ p6 _ _ s6 e6 t6 (by show 44 ≤ 90; decide) (by show 5 ≤ 10; decide) (by repeat (first | exact Txts.nil | refine Txts.cons (by decide +kernel) ?_)) fun p7 H7 s7 e7 t7 => ?_⟩
    exact k p7 _ H7 s7 e7 t7 (by show 49 ≤ 100; decide)
end
end Jug

namespace Jug
open PySem L2
/-! ### the law's own -/
section
variable {P : Program} {w : World} {K : PySem.W.Frag} {mg : Str → Option Value} {base : Heap} {CH : Addr} {Z : Cz} {z : Tz}
/-- no text at all -/
def sp_nt (CT : Addr) : Sp := fun vs H _ E => ∃ v t, vs = [v] ∧ Kd H v t ∧ t ≠ "str" ∧ E (.ref CT) none H
theorem ok_house_ofN {f : Addr} {fd : FuncData} (F : Fun K "house_of" "house_of" s_house_of f fd) (N : FnX P w K mg base 1 "check_text" ["text"] (sp_check_text z.T)) : FnOk P w K mg base (CX1 P w) 2 f fd ["text"] (sp_nt z.T) := by
  refine F.okX sc_house_of (fun vs H Q E h => ?_) (fun cdv A outer s H vs Q E hr h => ?_)
  · obtain ⟨v, t, rfl, _⟩ := h
    rfl
  · obtain ⟨v, t, rfl, kd, nt, k⟩ := h
    exact ⟨_, pss_cons (ps_expr (pe_fnX bdX xeX N hr (pa_cons (pv 0) pa_nil))) pss_never, _, rfl, v, t, rfl, kd, .inr ⟨nt, k⟩⟩
theorem ok_routine_ofN {f : Addr} {fd : FuncData} (F : Fun K "routine_of" "routine_of" s_routine_of f fd) (N : FnX P w K mg base 1 "check_text" ["text"] (sp_check_text z.T)) : FnOk P w K mg base (CX1 P w) 2 f fd ["text"] (sp_nt z.T) := by
  refine F.okX sc_routine_of (fun vs H Q E h => ?_) (fun cdv A outer s H vs Q E hr h => ?_)
  · obtain ⟨v, t, rfl, _⟩ := h
    rfl
  · obtain ⟨v, t, rfl, kd, nt, k⟩ := h
    exact ⟨_, pss_cons (ps_expr (pe_fnX bdX xeX N hr (pa_cons (pv 0) pa_nil))) pss_never, _, rfl, v, t, rfl, kd, .inr ⟨nt, k⟩⟩
end
/-! mathematics -/
theorem mvT_inj {a b : J.Mv} (h : mvT a = mvT b) : a = b := by
  cases a <;> cases b <;> simp [mvT] at h ⊢ <;> omega
theorem moves_good {n : Nat} {tap : Bool} (hn : n ≤ 4) : ∀ m ∈ J.moves n tap, J.mvGood m := by
  intro m hm
  unfold J.moves at hm
  rcases List.mem_append.mp hm with h | h
  · unfold J.pours at h
    obtain ⟨a, ha, h⟩ := List.mem_flatMap.mp h
    obtain ⟨b, hb, rfl⟩ := List.mem_map.mp h
    obtain ⟨hb, hab⟩ := List.mem_filter.mp hb
    have ha := List.mem_range.mp ha
    have hb := List.mem_range.mp hb
    exact ⟨by omega, by omega, by simpa using Ne.symm (bne_iff_ne.mp hab)⟩
  · by_cases ht : tap = true
    · rw [if_pos ht] at h
      rcases List.mem_append.mp h with h | h <;>
      · obtain ⟨a, ha, rfl⟩ := List.mem_map.mp h
        have ha := List.mem_range.mp ha
        show a < 4
        omega
    · rw [if_neg ht] at h; simp at h
theorem moves_len {n : Nat} {tap : Bool} (hn : n ≤ 4) : (J.moves n tap).length ≤ 24 := by
  have : ∀ n : Nat, n < 5 → ∀ tap : Bool, (J.moves n tap).length ≤ 24 := by decide
  exact this n (by omega) tap
theorem sapp (a b c : Str) : a ++ b ++ c = a ++ (b ++ c) := by
  apply PySem.Str.ext'
  show (a.cps ++ b.cps) ++ c.cps = a.cps ++ (b.cps ++ c.cps)
  exact Array.append_assoc
theorem join_snoc (sep x : Str) : ∀ (a : Str) (l : List Str), Str.join sep (a :: (l ++ [x])) = Str.join sep (a :: l) ++ (sep ++ x)
  | a, [] => sapp a sep x
  | a, b :: l => by
    show a ++ sep ++ Str.join sep (b :: (l ++ [x])) = (a ++ sep ++ Str.join sep (b :: l)) ++ (sep ++ x)
    rw [join_snoc sep x b l, sapp (a ++ sep)]
theorem hs_first (sz : List Int) (tap : Bool) : Txt.join " " ([J.jugs] ++ sz.map J.numT) ++ (if tap = true then " tap" else "" : Str) = J.hsText sz tap := by
  unfold J.hsText
  cases tap with
  | false =>
    rw [if_neg (by decide), if_neg (by decide), List.append_nil]
    apply PySem.Str.ext'
    show _ ++ (Str.ofString "").cps = _
    rw [show (Str.ofString "").cps = #[] by decide +kernel, Array.append_empty]
  | true =>
    rw [if_pos rfl, if_pos rfl, J.tjoin, J.tjoin]
    show _ = Str.join " " (J.jugs :: (sz.map J.numT ++ [J.tapS]))
    rw [join_snoc]
    rfl
theorem rcLT7 {X : Cx} {H : Hp} {a b : Addr} {xs ys : List V} {s t : List (List Int)} (ha : H a = some (.lst xs)) (px : Paired (isTI H) xs s) (hb : H b = some (.lst ys)) (py : Paired (isTI H) ys t) : RcD X H 20 (.ref a) (.ref b) (decide (s = t)) := by
  have toT : ∀ {v : V} {st : List Int}, isTI H v st → isT X.K H isI v st := fun {v st} ⟨a, e, h⟩ => ⟨a, _, e, SqT.of h, pI7 st⟩
  exact (EqR.lst (d := 19) (EqR.tup (d := 18) EqR.int)).rc _ _ s t ⟨a, _, rfl, SqL.of ha, Paired.mapP px fun _ _ => toT⟩ ⟨b, _, rfl, SqL.of hb, Paired.mapP py fun _ _ => toT⟩
end Jug

namespace Jug
open PySem L2
theorem bt_all : bootBuiltins "all" = some (.builtin "all") := by decide +kernel
def rIndexK (K : PySem.W.Frag) : V → List V → Hp → VK → Prop := fun x vs H Q => ∃ (α : Type) (_ : DecidableEq α) (R : V → α → Prop) (l : Addr) (xs : List V) (as : List α) (y : V) (a : α) (j : Nat), x = .ref l ∧ vs = [y] ∧ (∀ X : Cx, X.K = K → EqR X H 19 R) ∧ SqL K H l xs ∧ Paired R xs as ∧ R y a ∧ j < 10000 ∧ as[j]? = some a ∧ (∀ m, m < j → as[m]? ≠ some a) ∧ Q (.int j) H
section
variable {X : Cx}
variable {a e : Expr} {ta te : TE} {apos cpos : Pos}
theorem mt_indexK (K : PySem.W.Frag) (hK : X.K = K) (hu : X.A.units + 20 < cLine) : MtR X "list.index" (rIndexK K) := by
  subst hK
  intro pins s σ H x vs v us Q I rx rv h
  obtain ⟨α, d, R, l, xs, as, y, a, j, h1, h2, h3, h4, h5, h6, h7⟩ := h
  exact mt_index hu pins s σ H x vs v us Q I rx rv ⟨α, d, R, l, xs, as, y, a, j, h1, h2, h3 X rfl, h4, h5, h6, h7⟩
theorem pe_indexK (K : PySem.W.Frag) (hu : X.A.units + 20 < cLine) (ha : PE X a ta) (he : PE X e te) (hK : X.K = K := by rfl) (hbase : attributeBase a "index" X.env (eval a X.env) = eval a X.env := by rfl)
    (hfew : ((backTo cpos (starEach [e] X.env)).all (fun x => !x.1) && (backToKw cpos (keywordEach [] X.env)).all (fun x => x.1.isSome)
      && decide (([e] : List Expr).length + ([] : List Keyword).length + (if ([] : List Keyword).isEmpty then 0 else 1) < 30)) = true := by rfl)
    (hline : (apos.endLine == cpos.line) = true := by rfl) (hs : starEach [e] X.env = (false, eval e X.env) :: starEach [] X.env := by rfl) (hplain : (backTo cpos (starEach [] X.env)).any (·.1) = false := by rfl) :
    PE X (.Call (.Attribute a "index" apos) [e] [] cpos) (tBM K "list" (rIndexK K) ta (tCons te tNil)) := by
  subst hK
  exact pe_bm PySem.F.plainAttrs_list PySem.F.slot_list_index PySem.F.type_list_index (mt_indexK _ rfl hu) ha (pa_cons he pa_nil hs) hbase hfew hline hs hplain
end
def tFirst : TE := fun σ H Q => ∃ ls sz tap, σ[1]? = some (some (.ref ls)) ∧ σ[2]? = some (some (.bl tap)) ∧ H ls = some (.lst (sz.map V.int)) ∧ Hz sz ∧ ∀ H', Same H H' → Q (.str (J.hsText sz tap)) H'
def tSecond : TE := fun σ H Q => ∃ lt ts, ∃ ms : List J.Mv, σ[4]? = some (some (.ref lt)) ∧ H lt = some (.lst ts) ∧ Paired (isTI H) ts (ms.map mvT) ∧ (∀ m ∈ ms, J.mvGood m) ∧ ms.length ≤ 6 ∧ ∀ H', Same H H' → Q (.str (Txt.join "; " (ms.map J.mvT))) H'
def tEvery (Z : Cz) : TE := fun σ H Q => ∃ lt ts le ys lm xs, ∃ ms mvs : List J.Mv, σ[4]? = some (some (.ref lt)) ∧ σ[8]? = some (some (.ref le)) ∧ σ[3]? = some (some (.ref lm)) ∧ H lt = some (.lst ts) ∧ Paired (isTI H) ts (ms.map mvT) ∧ H le = some (.lst ys) ∧ Paired (isM Z H) ys mvs ∧ H lm = some (.lst xs) ∧ Paired (isTI H) xs (mvs.map mvT) ∧ (∀ m ∈ ms, m ∈ mvs) ∧ ms.length ≤ 6 ∧ mvs.length ≤ 24 ∧
  ∀ l zs H', Same H H' → H' l = some (.lst zs) → Paired (isM Z H') zs ms → Q (.ref l) H'
theorem hs_len {sz : List Int} (hz : Hz sz) (tap : Bool) : (sz.map J.numT).length ≤ 4 ∧ ((([J.jugs] ++ sz.map J.numT).map (·.length)).sum + ([J.jugs] ++ sz.map J.numT).length * (" " : Str).length ≤ 30) := by
  have len2 : ∀ x ∈ sz.map J.numT, x.length ≤ 2 := fun x hx => by
    obtain ⟨n, hn, rfl⟩ := List.mem_map.mp hx
    have := hz.bd n hn
    exact num_short (by omega) (by omega)
  have sum2 : ∀ (l : List Str), (∀ x ∈ l, x.length ≤ 2) → (l.map (·.length)).sum ≤ 2 * l.length := fun l h => by
    induction l with
    | nil => simp
    | cons x l ih =>
      have h1 := h x List.mem_cons_self
      have h2 := ih fun y hy => h y (List.mem_cons_of_mem _ hy)
      simp only [List.map_cons, List.sum_cons, List.length_cons]
      omega
  have hsum := sum2 _ len2
  rw [List.length_map] at hsum
  have j4 : J.jugs.length = 4 := by decide +kernel
  have j1 : (" " : Str).length = 1 := by decide +kernel
  have l4 := hz.l4
  refine ⟨by rw [List.length_map]; exact l4, ?_⟩
  rw [List.map_append, List.sum_append, List.length_append, List.length_map, j1]
  show J.jugs.length + 0 + _ + _ ≤ _
  simp only [List.length_cons, List.length_nil]
  omega
section
variable {P : Program} {w : World} {K : PySem.W.Frag} {mg : Str → Option Value} {base : Heap} {CH : Addr} {Z : Cz} {z : Tz}
def sp_law7 (K : PySem.W.Frag) : Sp := fun vs H Q _ => ∃ (a : Addr) (ns : List Int), vs = [.ref a] ∧ SqL K H a (ns.map V.int) ∧ ∀ H', Q (.bl true) H'
theorem ok_law7 {f : Addr} {fd : FuncData} (F : Fun K "law" "law" s_law f fd) (B : Bt mg) (hal : mg "all" = none) (C : CHs K CH)
    (CA : FnB P w K mg base 1 "_law_cell_at" ["_law_script", "_law_k"] (sp_cell_at K)) (DR : FnB P w K mg base 1 "_law_draw" ["_law_cell", "_law_k", "_law_many"] sp_draw) (LS : FnB P w K mg base 2 "_law_sizes" ["_law_cell"] sp_law_sizes) (AM : FnB P w K mg base 1 "_law_all_moves" ["_law_sizes_here", "_law_tap"] sp_all_moves)
    (MT : FnB P w K mg base 1 "_law_move_text" ["_law_told"] sp_lmt) (HM : MkB P w K mg base 3 "House" CH ["self", "sizes", "tap"] (sp_House_init CH)) (MO : MeB P w K mg base 7 CH "moves" ["self"] (sp_moves Z CH)) (HT : FnB P w K mg base 2 "house_text" ["house"] (sp_house_text CH)) (RT : FnB P w K mg base 2 "routine_text" ["moves"] (sp_routine_text Z))
    (RO : FnX P w K mg base 8 "routine_of" ["text"] (sp_routine_of Z z.T)) (FW : FnB P w K mg base 1 "_law_few" [] sp_few) (RI : FnB P w K mg base 10 "_law_right" ["_law_text"] sp_right) (RE : FnB P w K mg base 9 "_law_refused" ["_law_ask", "_law_text"] (sp_refused P w K mg base 8 z))
    (HN : FnX P w K mg base 2 "house_of" ["text"] (sp_nt z.T)) (RN : FnX P w K mg base 2 "routine_of" ["text"] (sp_nt z.T)) : FnOk P w K mg base CX0 11 f fd ["_law_script"] (sp_law7 K) := by
  obtain ⟨fh, fdh, Fh, mh, kh, bh⟩ := id HN
  obtain ⟨fr, fdr, Fr, mr, kr, br⟩ := id RN
  refine F.ok sc_law (fun vs H Q E h => ?_) (fun cdv A outer s H vs Q E hr h => ?_)
  · obtain ⟨a, ns, rfl, _⟩ := h
    rfl
  · obtain ⟨a, ns, rfl, hsq, k⟩ := h
    have nd := sc_law.nd
    have hr1 : Room 1 _ := hr.mono (by decide)
    have hr2 : Room 2 _ := hr.mono (by decide)
    have hr4 : Room 4 _ := hr.mono (by decide)
    have hr7 : Room 7 _ := hr.mono (by decide)
    have hr8 : Room 8 _ := hr.mono (by decide)
    have hr9 : Room 9 _ := hr.mono (by decide)
    have hu := hr.u20
    refine ⟨_, pss_cons (ps_set (i := 1) nd rfl (Or.inl rfl) (pe_fn LS hr2 (pa_cons (pe_fn CA hr1 (pa_cons (pv 0) (pa_cons pe_int pa_nil))) pa_nil)))
      (pss_cons (ps_set (i := 2) nd rfl (Or.inl rfl) (pe_cmpR op_eq (pe_fn DR hr1 (pa_cons (pe_fn CA hr1 (pa_cons (pv 0) (pa_cons pe_int pa_nil))) (pa_cons pe_int (pa_cons pe_int pa_nil)))) pe_int (nomark _)))
      (pss_cons (ps_set (i := 3) nd rfl (Or.inr rfl) (pe_fn AM hr1 (pa_cons (pv 1) (pa_cons (pv 2) pa_nil))))
      (pss_cons (ps_set (i := 4) nd rfl (Or.inl rfl) (pe_lst pa_nil))
      (pss_cut (ps_if (pt_cmpR (op_neD hu) (pv 3) (pe_lst pa_nil) (nomark _)) (pss_one (ps_for PassesOwn.never rfl (pi_range1 (by rfl) B.range (pa_cons (pe_fn DR hr1 (pa_cons (pe_fn CA hr1 (pa_cons (pv 0) (pa_cons pe_int pa_nil))) (pa_cons pe_int (pa_cons pe_int pa_nil)))) pa_nil)) (pg_name (i := 5) nd rfl (Or.inl rfl))
          (pss_one (ps_expr (pe_append (pv 4) (pe_ix ix_list (pv 3) (pe_fn DR hr1 (pa_cons (pe_fn CA hr1 (pa_cons (pv 0) (pa_cons (pe_op op_add pe_int (pv 5)) pa_nil))) (pa_cons pe_int (pa_cons (pe_callB call_len_seq (by rfl) B.len PySem.boot_len (pa_cons (pv 3) pa_nil)) pa_nil)))) (by intro _ _; rfl))))))) pss_nil)
      (pss_cons (ps_set (i := 6) nd rfl (Or.inl rfl) (PE.weak (t' := tFirst) (pe_op op_add_str (pe_join pe_str (pe_op op_cat (pe_lst (pa_cons pe_str pa_nil)) (pe_lc sc_law [] (pi_list (pv 1)) (fun _ _ _ _ _ _ => ⟨pif_nil, pe_callTy call_str_int (by rfl) B.str bt_str (pa_cons (pv 0) pa_nil)⟩)))) (pe_ifExp (pt_val (pv 2)) pe_str pe_str)) ?first))
      (pss_cons (ps_set (i := 7) nd rfl (Or.inl rfl) (PE.weak (t' := tSecond) (pe_join pe_str (pe_lc sc_law [] (pi_list (pv 4)) (fun _ _ _ _ _ _ => ⟨pif_nil, pe_fn MT hr1 (pa_cons (pv 0) pa_nil)⟩))) ?second))
      (pss_cons (ps_set (i := 8) nd rfl (Or.inr rfl) (pe_me0 MO (pe_mk HM hr4 (pa_cons (pv 1) (pa_cons (pv 2) pa_nil))) hr7))
      (pss_cons (ps_if (PW.pt (pw_or (pt_cmpR op_ne (pe_fn HT hr2 (pa_cons (pe_mk HM hr4 (pa_cons (pv 1) (pa_cons (pv 2) pa_nil))) pa_nil)) (pv 6) (nomark _)) (pw_or1 (pt_cmpR op_ne (pe_fn RT hr2 (pa_cons (PE.weak (t' := tEvery Z) (pe_lc sc_law [8, 3] (pi_list (pv 4)) (fun _ _ _ _ _ _ => ⟨pif_nil, pe_ix (ix_listK K) (pv 1) (pe_indexK K hu (pv 2) (pv 0)) (by intro _ _; rfl)⟩)) ?every) pa_nil)) (pv 7) (nomark _))))) (pss_one (ps_ret pe_bl)) pss_nil)
      (pss_cons (ps_set (i := 9) nd rfl (Or.inl rfl) (pe_fnC passNo RO hr8 (pa_cons (pv 7) pa_nil)))
      (pss_cons (ps_expr (pe_append (pv 9) pe_int))
      (pss_cons (ps_set (i := 10) nd rfl (Or.inl rfl) (pe_op op_add (pe_op op_add (pe_fn CA hr1 (pa_cons (pv 0) (pa_cons pe_int pa_nil))) (pe_op op_mul pe_int (pe_fn CA hr1 (pa_cons (pv 0) (pa_cons pe_int pa_nil))))) (pe_op op_mul pe_int (pe_fn CA hr1 (pa_cons (pv 0) (pa_cons pe_int pa_nil))))))
      (pss_cons (ps_set (i := 11) nd rfl (Or.inl rfl) (pe_lst (pa_cons (pv 6) (pa_cons (pv 7) pa_nil))))
      (pss_cut (ps_for PassesOwn.never rfl (pi_list (pe_lst (pa_cons (pv 6) (pa_cons (pv 7) pa_nil)))) (pg_name (i := 12) nd rfl (Or.inl rfl))
        (pss_cons (ps_set (i := 13) nd rfl (Or.inl rfl) (pe_fn DR hr1 (pa_cons (pv 10) (pa_cons pe_int (pa_cons (pe_op op_add (pe_callB call_len_str (by rfl) B.len PySem.boot_len (pa_cons (pv 12) pa_nil)) pe_int) pa_nil)))))
        (pss_cons (ps_set (i := 14) nd rfl (Or.inl rfl) (pe_ix ix_tup (pe_tup (pa_cons pe_str (pa_cons (pe_ix ix_str pe_str (pe_fn DR hr1 (pa_cons (pv 10) (pa_cons pe_int (pa_cons pe_int pa_nil)))) (by intro _ _; rfl)) pa_nil))) (pe_fn DR hr1 (pa_cons (pv 10) (pa_cons pe_int (pa_cons pe_int pa_nil)))) (by intro _ _; rfl)))
        (pss_cons (ps_expr (pe_append (pv 11) (pe_op op_add_str (pe_op op_add_str (pe_slice sl_str (pv 12) po_none (po_some (pv 13))) (pv 14)) (pe_slice sl_str (pv 12) (po_some (pe_op op_add (pv 13) (pe_fn DR hr1 (pa_cons (pv 10) (pa_cons pe_int (pa_cons pe_int pa_nil)))))) po_none))))
        (pss_one (ps_set (i := 10) nd rfl (Or.inl rfl) (pe_op op_add (pv 10) pe_int)))))))
      (pss_cons (ps_if (pt_not (pt_val (pe_callB (call_all rfl) (by rfl) hal bt_all (pa_cons (pe_lc sc_law [] (pi_list (pe_op op_cat (pv 11) (pe_fn0 FW hr1))) (fun _ _ _ _ _ _ => ⟨pif_nil, pe_fn RI hr (pa_cons (pv 0) pa_nil)⟩)) pa_nil)))) (pss_one (ps_ret pe_bl)) pss_nil)
      (pss_cons (ps_set (i := 15) nd rfl (Or.inl rfl) (pe_lst (pa_cons pe_non (pa_cons pe_int (pa_cons (pe_lst (pa_cons pe_str pa_nil)) (pa_cons pe_bl pa_nil))))))
      (pss_one (ps_ret (pe_callB (call_all rfl) (by rfl) hal bt_all (pa_cons (pe_lc sc_law [] (pi_list (pv 15)) (fun _ _ _ _ _ _ => ⟨pif_nil, pe_and (pe_fn RE hr9 (pa_cons (pe_glob (v := .ref fh) (by rfl) mh rfl) (pa_cons (pv 0) pa_nil))) (pe_one (pe_fn RE hr9 (pa_cons (pe_glob (v := .ref fr) (by rfl) mr rfl) (pa_cons (pv 0) pa_nil))))⟩)) pa_nil))))))))))))))))))), ?_⟩
    case first =>
      rintro σ H Q ⟨ls, sz, tap, h1, h2, hls, hz, q⟩
      obtain ⟨l4, lsum⟩ := hs_len hz tap
      refine ⟨rfl, (by show 1 ≤ sizeLine; decide), fun la nla => ⟨_, h1, ls, rfl, ⟨_, SqL.of ((Same.new nla) _ _ hls)⟩, ?_⟩⟩
      have s1 : Same H (upd H la (.lst [.str "jugs"])) := Same.new nla
      have e1 : (upd H la (.lst [.str "jugs"])) la = some (.lst [.str "jugs"]) := upd_same
      generalize upd H la (.lst [.str "jugs"]) = H1 at s1 e1 ⊢
      refine lc_list (K := K) (a := ls) (xs := sz.map V.int) (fun i ys H' => H' = H1 ∧ ys = (sz.take i).map (fun n => V.str (J.numT n)))
        ⟨rfl, rfl⟩ (by rw [List.length_map, sizeLine_eq]; have := hz.l4; omega) (fun i ys H' ⟨_, e⟩ => by rw [e, List.length_map, List.length_take]; omega) (fun i ys H' _ ⟨e, _⟩ => by subst e; exact SqL.of (s1 _ _ hls)) ?_ ?_
      · rintro i v ys H' hv ⟨rfl, rfl⟩
        obtain ⟨n, en, rfl⟩ := mem_ints hv
        have hb := hz.bd n (List.mem_of_getElem? en)
        refine tYes_of ⟨_, rfl, n, rfl, log_small (by omega) (by omega), rfl, ?_⟩
        rw [List.take_add_one, en, List.map_append]; rfl
      · rintro ys H' ⟨rfl, rfl⟩ d nd'
        rw [List.length_map, List.take_of_length_le (Nat.le_refl _)]
        have s2 := s1.lay (o := .lst (sz.map fun n => V.str (J.numT n))) nd'
        have e2 := (Same.new (o := .lst (sz.map fun n => V.str (J.numT n))) nd') _ _ e1
        refine ⟨la, d, _, _, rfl, rfl, e2, upd_same, by rw [sizeLine_eq]; simp; have := hz.l4; omega, fun r nr => ?_⟩
        have s3 := s2.lay (o := .lst ([V.str "jugs"] ++ sz.map fun n => V.str (J.numT n))) nr
        have ws : [V.str "jugs"] ++ (sz.map fun n => V.str (J.numT n)) = ([J.jugs] ++ sz.map J.numT).map V.str := by rw [List.map_append, List.map_map]; rfl
        refine ⟨" ", r, [J.jugs] ++ sz.map J.numT, rfl, rfl, SqL.of (upd_same.trans (by rw [ws])), by omega, _, h2, _, rfl, ?_⟩
        have jl : (Txt.join " " ([J.jugs] ++ sz.map J.numT)).length ≤ 30 := Nat.le_trans (by rw [J.tjoin]; exact StrLaws.join_length_le _ _) lsum
        have t4 : (" tap" : Str).length = 4 := by decide +kernel
        have t0 : ("" : Str).length = 0 := by decide +kernel
        have q := q _ s3
        rw [← hs_first] at q
        cases tap with
        | true =>
          rw [if_pos rfl] at q
          exact iteT ⟨_, _, rfl, rfl, by rw [t4, sizeLine_eq]; omega, q⟩
        | false =>
          rw [if_neg (by decide)] at q
          exact iteF ⟨_, _, rfl, rfl, by rw [t0, sizeLine_eq]; omega, q⟩
    case second =>
      rintro σ H Q ⟨lt, ts, ms, h4, hlt, pts, hg, hl, q⟩
      have lts := pts.length
      rw [List.length_map] at lts
      refine ⟨rfl, _, h4, lt, rfl, ⟨_, SqL.of hlt⟩, ?_⟩
      refine lc_list (K := K) (a := lt) (xs := ts) (fun i ys H' => Same H H' ∧ ys = (ms.take i).map fun m => V.str (J.mvT m)) ⟨Same.refl _, rfl⟩ (by rw [sizeLine_eq]; omega) (fun i ys H' ⟨_, e⟩ => by rw [e, List.length_map, List.length_take]; omega) (fun i ys H' _ ⟨e, _⟩ => SqL.of (e _ _ hlt)) ?_ ?_
      · rintro i v ys H' hv ⟨sm, rfl⟩
        obtain ⟨st, est, p, rfl, hp⟩ := L2.Paired.get pts hv
        rw [List.getElem?_map] at est
        obtain ⟨m, em, rfl⟩ : ∃ m, ms[i]? = some m ∧ st = mvT m := by
          cases e' : ms[i]? with
          | none => rw [e'] at est; cases est
          | some m => rw [e'] at est; cases est; exact ⟨m, rfl, rfl⟩
        refine tYes_of ⟨_, rfl, p, m, rfl, sm _ _ hp, hg m (List.mem_of_getElem? em), fun H2 s2 => ⟨sm.trans s2, ?_⟩⟩
        rw [List.take_add_one, em, List.map_append]; rfl
      · rintro ys H' ⟨sm, rfl⟩ d nd'
        rw [show (ms.take ts.length).map (fun m => V.str (J.mvT m)) = (ms.map J.mvT).map V.str by rw [List.take_of_length_le (by omega), List.map_map]; rfl]
        have j2 : ("; " : Str).length = 2 := by decide +kernel
        have sum8 : ∀ (l : List Str), (∀ x ∈ l, x.length ≤ 8) → (l.map (·.length)).sum ≤ 8 * l.length := fun l h => by
          induction l with
          | nil => simp
          | cons x l ih =>
            have h1 := h x List.mem_cons_self
            have h2 := ih fun y hy => h y (List.mem_cons_of_mem _ hy)
            simp only [List.map_cons, List.sum_cons, List.length_cons]
            omega
        have hs := sum8 (ms.map J.mvT) fun x hx => by
          obtain ⟨m, hm, rfl⟩ := List.mem_map.mp hx
          exact (J.mv_ok (hg m hm)).2.2
        rw [List.length_map] at hs
        exact ⟨"; ", d, ms.map J.mvT, rfl, rfl, SqL.of upd_same, by rw [List.length_map, j2]; omega, q _ (sm.lay nd')⟩
    case every =>
      rintro σ H Q ⟨lt, ts, le, ys, lm, xs, ms, mvs, h4, h8, h3, hlt, pts, hle, pys, hlm, pxs, hsub, hl, hml, q⟩
      have lts := pts.length
      rw [List.length_map] at lts
      have lxs := pxs.length
      rw [List.length_map] at lxs
      refine ⟨_, h4, lt, rfl, ⟨_, SqL.of hlt⟩, ?_⟩
      have cap : capSt σ [8, 3] = [some (.ref le), some (.ref lm)] := by
        unfold capSt
        simp [h8, h3]
      rw [cap]
      have toT : ∀ {v : V} {st : List Int}, isTI H v st → isT K H isI v st := fun {v st} ⟨a, e, h⟩ => ⟨a, _, e, SqT.of h, pI7 st⟩
      refine lc_list (K := K) (a := lt) (xs := ts) (fun i zs H' => H' = H ∧ Paired (isM Z H) zs (ms.take i)) ⟨rfl, .nil⟩ (by rw [sizeLine_eq]; omega) (fun i zs H' ⟨_, p⟩ => by rw [p.length, List.length_take]; omega) (fun i zs H' _ ⟨e, _⟩ => by subst e; exact SqL.of hlt) ?_ ?_
      · rintro i v zs H' hv ⟨rfl, pz⟩
        obtain ⟨st, est, tv⟩ := L2.Paired.get pts hv
        rw [List.getElem?_map] at est
        obtain ⟨m, em, rfl⟩ : ∃ m, ms[i]? = some m ∧ st = mvT m := by
          cases e' : ms[i]? with
          | none => rw [e'] at est; cases est
          | some m => rw [e'] at est; cases est; exact ⟨m, rfl, rfl⟩
        have hmem : mvT m ∈ mvs.map mvT := List.mem_map_of_mem (hsub m (List.mem_of_getElem? em))
        obtain ⟨j, hj, hmin⟩ : ∃ j : Nat, (mvs.map mvT)[j]? = some (mvT m) ∧ ∀ k, k < j → (mvs.map mvT)[k]? ≠ some (mvT m) := by
          obtain ⟨j0, hj0⟩ := List.getElem?_of_mem hmem
          have : ∀ n : Nat, (mvs.map mvT)[n]? = some (mvT m) → ∃ j : Nat, (mvs.map mvT)[j]? = some (mvT m) ∧ ∀ k, k < j → (mvs.map mvT)[k]? ≠ some (mvT m) := by
            intro n
            induction n using Nat.strongRecOn with
            | ind n ih =>
              intro hn
              by_cases h : ∃ k, k < n ∧ (mvs.map mvT)[k]? = some (mvT m)
              · obtain ⟨k, hk, ek⟩ := h
                exact ih k hk ek
              · exact ⟨n, hn, fun k hk ek => h ⟨k, hk, ek⟩⟩
          exact this j0 hj0
        have hjl : j < mvs.length := by
          have := (List.getElem?_eq_some_iff.mp hj).1
          rwa [List.length_map] at this
        have ej : mvs[j]? = some m := by
          rw [List.getElem?_map] at hj
          cases e' : mvs[j]? with
          | none => rw [e'] at hj; cases hj
          | some m' => rw [e'] at hj; rw [mvT_inj (Option.some.inj hj)]
        obtain ⟨y, ey, iy⟩ : ∃ y, ys[j]? = some y ∧ isM Z H' y m := by
          have ly := pys.length
          have : ys[j]? = some (ys[j]'(by omega)) := List.getElem?_eq_getElem (by omega)
          obtain ⟨m', em', im⟩ := L2.Paired.get pys this
          rw [ej] at em'
          cases em'
          exact ⟨_, this, im⟩
        refine tYes_of ⟨_, rfl, _, rfl, .inl ⟨rfl, _, SqL.of hlm⟩, _, rfl, List Int, inferInstance, isT K H' isI, lm, xs, mvs.map mvT, v, mvT m, j, rfl, rfl, fun X hX => ?_, SqL.of hlm, Paired.mapP pxs fun _ _ => toT, toT tv, by omega, hj, hmin, le, _, _, _, rfl, rfl, SqL.of hle, atI_nat ey, rfl, ?_⟩
        · subst hX
          exact EqR.tup (d := 18) EqR.int
        · rw [List.take_add_one, em]
          exact Paired.snocP pz iy
      · rintro zs H' ⟨rfl, pz⟩ d nd'
        rw [List.take_of_length_le (by omega)] at pz
        have s1 : Same H' (upd H' d (.lst zs)) := Same.new nd'
        exact q d zs _ s1 upd_same (pm_fix pz (Fix.of s1))
    refine ⟨_, rfl, a, ns, 0, rfl, hsq, by decide, fun c0 => ⟨c0, rfl, fun ls H1 sz s1 nls els lsz => ?_⟩⟩
    refine ⟨_, rfl, a, ns, 1, rfl, s1.seq hsq, by decide, fun c1 => ⟨c1, 0, 2, rfl, by decide, by decide, fun r H2 r0 r2 s2 => ⟨rfl, ?_⟩⟩⟩
    generalize decide (V.int r = V.int 0) = tap
    have hz := lsz.hz
    have h4 := hz.l4
    refine ⟨_, rfl, _, rfl, ls, sz, tap, rfl, s2 _ _ els, h4, fun lm H3 xs s3 nlm elm pxm => ?_⟩
    have els3 := s3 _ _ (s2 _ _ els)
    have hsq3 := ((s1.trans s2).trans s3).seq hsq
    have ml := moves_len (tap := tap) h4
    have mg' := moves_good (tap := tap) h4
    have lxs : xs.length = (J.moves sz.length tap).length := by rw [pxm.length, List.length_map]
    clear s1 s2 s3 nls nlm hsq
    refine ⟨(by show 0 ≤ sizeLine; decide), fun lt nlt => ?_⟩
    have s4 : Same H3 (upd H3 lt (.lst [])) := Same.new nlt
    refine ⟨fun σ H' => ∃ x5 ts, ∃ ms : List J.Mv, σ = [some (.ref a), some (.ref ls), some (.bl tap), some (.ref lm), some (.ref lt), x5, none, none, none, none, none, none, none, none, none, none] ∧ Same H3 H' ∧ H' lt = some (.lst ts) ∧ Paired (isTI H') ts (ms.map mvT) ∧ (∀ m ∈ ms, m ∈ J.moves sz.length tap) ∧ ms.length ≤ 6, ?_, ?_⟩
    · refine ⟨_, rfl, (by show 0 ≤ sizeLine; decide), fun e ne => ?_⟩
      have s5 : Same (upd H3 lt (.lst [])) (upd (upd H3 lt (.lst [])) e (.lst [])) := Same.new ne
      refine ⟨_, rcLT7 (s := (J.moves sz.length tap).map mvT) (t := []) (s5 _ _ (s4 _ _ elm)) (pt_fix pxm (Fix.of (s4.trans s5))) upd_same .nil, _, rfl, ?_⟩
      by_cases hm : (J.moves sz.length tap).map mvT = []
      · rw [decide_eq_true hm]
        exact iteF ⟨none, [], [], rfl, s4.trans s5, s5 _ _ upd_same, .nil, fun m h => (by simp at h), by decide⟩
      · rw [decide_eq_false hm]
        refine iteT ⟨_, rfl, a, ns, 2, rfl, (s4.trans s5).seq hsq3, by decide, fun c2 => ⟨c2, 1, 7, rfl, by decide, by decide, fun rr H6 rr0 rr7 s6 => ?_⟩⟩
        obtain ⟨n, rfl⟩ : ∃ n : Nat, rr = (n : Int) := ⟨rr.toNat, (Int.toNat_of_nonneg rr0).symm⟩
        have hpos : 0 < (J.moves sz.length tap).length := by
          rcases Nat.eq_zero_or_pos (J.moves sz.length tap).length with z | z
          · exact absurd (by rw [List.length_eq_zero_iff.mp z]; rfl) hm
          · exact z
        refine ⟨_, rfl, by omega, by omega, for_rangeN (n := n) (fun i σ H' => ∃ x5 ts, ∃ ms : List J.Mv, σ = [some (.ref a), some (.ref ls), some (.bl tap), some (.ref lm), some (.ref lt), x5, none, none, none, none, none, none, none, none, none, none] ∧ Same H3 H' ∧ H' lt = some (.lst ts) ∧ Paired (isTI H') ts (ms.map mvT) ∧ (∀ m ∈ ms, m ∈ J.moves sz.length tap) ∧ ms.length = i)
          ⟨none, [], [], rfl, (s4.trans s5).trans s6, s6 _ _ (s5 _ _ upd_same), .nil, fun m h => (by simp at h), rfl⟩ ?_ ?_⟩
        · rintro i σ H7 hi ⟨x5, ts, ms, rfl, s7, elt, pts, hms, hl⟩
          refine ⟨_, rfl, .inl ⟨rfl, _, SqL.of elt⟩, _, rfl, _, rfl, _, rfl, _, _, rfl, rfl, a, ns, _, rfl, s7.seq hsq3, by omega, fun c3 => ?_⟩
          refine ⟨_, rfl, lm, xs, rfl, .inl (SqL.of (s7 _ _ elm)), _, _, _, rfl, by decide, by omega, fun q H8 q0 q1 s8 => ?_⟩
          obtain ⟨j, rfl⟩ : ∃ j : Nat, q = (j : Int) := ⟨q.toNat, (Int.toNat_of_nonneg q0).symm⟩
          have hj : j < xs.length := by omega
          have p8 := pt_fix pxm (Fix.of (s7.trans s8))
          have ex : xs[j]? = some (xs[j]'hj) := List.getElem?_eq_getElem hj
          obtain ⟨st, est, ti⟩ := L2.Paired.get p8 ex
          rw [List.getElem?_map] at est
          obtain ⟨m, em, rfl⟩ : ∃ m, (J.moves sz.length tap)[j]? = some m ∧ st = mvT m := by
            cases e' : (J.moves sz.length tap)[j]? with
            | none => rw [e'] at est; cases est
            | some m => rw [e'] at est; cases est; exact ⟨m, rfl, rfl⟩
          refine ⟨lm, _, _, _, rfl, rfl, SqL.of (s8 _ _ (s7 _ _ elm)), atI_nat ex, ?_⟩
          have lts := pts.length
          rw [List.length_map] at lts
          refine ⟨lt, _, _, rfl, rfl, s8 _ _ elt, small1000 (by omega), ?_⟩
          have fx8 : Fix H8 (upd H8 lt (.lst (ts ++ [xs[j]'hj]))) := Fix.put (s8 _ _ elt) rfl
          refine ⟨_, ts ++ [xs[j]'hj], ms ++ [m], rfl, (s7.trans s8).put nlt, upd_same, ?_, fun y hy => ?_, by simp [hl]⟩
          · rw [List.map_append]
            exact Paired.snocP (pt_fix pts ((Fix.of s8).trans fx8)) (isTI.fix fx8 _ _ ti)
          · rcases List.mem_append.mp hy with hy | hy
            · exact hms y hy
            · have : y = m := by simpa using hy
              rw [this]; exact List.mem_of_getElem? em
        · rintro σ H7 ⟨x5, ts, ms, rfl, s7, elt, pts, hms, hl⟩
          exact ⟨x5, ts, ms, rfl, s7, elt, pts, hms, by omega⟩
    · rintro σ H' ⟨x5, ts, ms, rfl, s5, elt, pts, hms, hl⟩
      have hg : ∀ m ∈ ms, J.mvGood m := fun m hm => mg' m (hms m hm)
      obtain ⟨rt1, rt2⟩ := J.rt_ok hg
      have fl : (J.hsText sz tap).length ≤ 60 := by
        rw [← hs_first]
        have h1 := (hs_len hz tap).2
        have h2 : (Txt.join " " ([J.jugs] ++ sz.map J.numT)).length ≤ 30 := Nat.le_trans (by rw [J.tjoin]; exact StrLaws.join_length_le _ _) h1
        rw [Str.length_append]
        have : (if tap = true then " tap" else "" : Str).length ≤ 4 := by cases tap <;> decide +kernel
        omega
      have sl : (Txt.join "; " (ms.map J.mvT)).length ≤ 60 := by
        rw [J.tjoin]
        refine Nat.le_trans (StrLaws.join_length_le _ _) ?_
        have j2 : ("; " : Str).length = 2 := by decide +kernel
        have sum8 : ∀ (l : List Str), (∀ x ∈ l, x.length ≤ 8) → (l.map (·.length)).sum ≤ 8 * l.length := fun l h => by
          induction l with
          | nil => simp
          | cons x l ih =>
            have h1 := h x List.mem_cons_self
            have h2 := ih fun y hy => h y (List.mem_cons_of_mem _ hy)
            simp only [List.map_cons, List.sum_cons, List.length_cons]
            omega
        have hs := sum8 (ms.map J.mvT) fun x hx => by
          obtain ⟨m, hm, rfl⟩ := List.mem_map.mp hx
          exact (J.mv_ok (hg m hm)).2.2
        rw [List.length_map] at hs
        rw [List.length_map, j2]; omega
      refine ⟨ls, sz, tap, rfl, rfl, s5 _ _ els3, hz, fun H6 s6 => ?_⟩
      refine ⟨lt, ts, ms, rfl, s6 _ _ elt, pt_fix pts (Fix.of s6), hg, hl, fun H7 s7 => ?_⟩
      have mkH : ∀ (Hx : Hp) (o dx : Addr) (G : Hp → Prop), Hx ls = some (.lst (sz.map V.int)) → Hx o = none → Hx dx = none → dx ≠ o → (∀ Hy, Same Hx Hy → House CH Hy o sz tap → G Hy) →
          sp_House_init CH [.ref o, .ref ls, .bl tap] (upd (upd Hx dx (.own o)) o (.ins CH dx [])) (fun v H2 => v = .non ∧ G H2) E0 := fun Hx o dx G el no ndx ne hR => by
        have ss : Same Hx (upd (upd Hx dx (.own o)) o (.ins CH dx [])) := (Same.new ndx).lay (by rw [upd_ne (Ne.symm ne)]; exact no)
        refine ⟨o, dx, ls, sz, tap, rfl, upd_same, ss _ _ el, hz, fun H' hk hh => ⟨rfl, hR H' (fun c u e => hk c u (ss _ _ e) fun zz => by rw [zz, no] at e; cases e) hh⟩⟩
      have elsA := (s6.trans s7) _ _ (s5 _ _ els3)
      refine ⟨_, rfl, _, rfl, fun o dx0 no ndx ne => mkH H7 o dx0 _ elsA no ndx ne fun H8 s8 hh => ?_⟩
      obtain ⟨dx, tt, hp, htt⟩ := id hh
      refine ⟨o, dx, _, rfl, hp, hF_no _ _ (by decide +kernel) (by decide +kernel), o, sz, tap, rfl, hh, hz, fun le H9 ys s9 nle ele pys => ?_⟩
      refine ⟨_, rfl, _, rfl, fun o2 dx2 no2 ndx2 ne2 => mkH H9 o2 dx2 _ (s9 _ _ (s8 _ _ elsA)) no2 ndx2 ne2 fun H10 s10 hh2 => ?_⟩
      refine ⟨o2, sz, tap, rfl, hh2, hz, fun H11 s11 => ⟨_, rfl, rfl, _, rfl, ?_⟩⟩
      rw [decide_eq_true rfl]
      refine iteF ?_
      have sA : Same H' H11 := s6.trans (s7.trans (s8.trans (s9.trans (s10.trans s11))))
      have sB : Same H9 H11 := s10.trans s11
      refine ⟨lt, ts, le, ys, lm, xs, ms, J.moves sz.length tap, rfl, rfl, rfl, sA _ _ elt, pt_fix pts (Fix.of sA), sB _ _ ele, pm_fix pys (Fix.of sB), sA _ _ (s5 _ _ elm), pt_fix pxm (Fix.of (s5.trans sA)), hms, hl, ml, fun l zs H12 s12 el12 pz => ?_⟩
      refine ⟨l, zs, ms, rfl, el12, pz, hg, by omega, fun H13 s13 => ⟨_, rfl, rfl, _, rfl, ?_⟩⟩
      rw [decide_eq_true rfl]
      refine iteF ?_
      have sC : Same H3 H13 := s5.trans (sA.trans (s12.trans s13))
      have hsqC := sC.seq hsq3
      generalize Txt.join "; " (ms.map J.mvT) = second at sl rt1 ⊢
      generalize J.hsText sz tap = first at fl ⊢
      refine ⟨_, rfl, second, rfl, by omega, (fun _ lf fs ms' H14 s14 nlf elf pf hl' hg' hj => ?_), (fun h => by rw [rt1] at h; cases h)⟩
      have lfs := pf.length
      refine ⟨_, rfl, .inl ⟨rfl, _, SqL.of elf⟩, lf, _, _, rfl, rfl, elf, small1000 (by omega), ?_⟩
      have hsqD := (s14.put (o := .lst (fs ++ [.int 0])) nlf).seq hsqC
      clear hj hg' hl' pf elf nlf s14 hsqC sC el12 pz s12 s13 sA sB s10 s11 hh2 s9 ele pys nle hh hp htt s8 elsA mkH s7 s6 rt2 rt1
      generalize upd H14 lf (.lst (fs ++ [.int 0])) = H15 at hsqD ⊢
      refine ⟨_, rfl, a, ns, 10, rfl, hsqD, by decide, fun c1 => ⟨_, rfl, a, ns, 0, rfl, hsqD, by decide, fun c2 => ⟨_, _, rfl, rfl, .inl ⟨by decide, by decide⟩, _, _, rfl, rfl, _, rfl, a, ns, 1, rfl, hsqD, by decide, fun c3 => ⟨_, _, rfl, rfl, .inl ⟨by decide, by decide⟩, _, _, rfl, rfl, ?_⟩⟩⟩⟩
      refine ⟨_, rfl, _, rfl, (by show 2 ≤ sizeLine; decide), fun lo nlo => ?_⟩
      have elo : (upd H15 lo (.lst [.str first, .str second])) lo = some (.lst [.str first, .str second]) := upd_same
      generalize upd H15 lo (.lst [.str first, .str second]) = H16 at elo ⊢
      refine ⟨fun σ H' => ∃ x0 x1 x2 x3 x4 x5 x6 x7 x8 x9 x10 x12 x13 x14 os, σ = [x0, x1, x2, x3, x4, x5, x6, x7, x8, x9, x10, some (.ref lo), x12, x13, x14, none] ∧ H' lo = some (.lst os) ∧ Txts os ∧ os.length ≤ 10, ?_, ?_⟩
      · refine ⟨_, rfl, _, rfl, (by show 2 ≤ sizeLine; decide), fun lf2 n2 => ⟨lf2, rfl, ⟨_, SqL.of upd_same⟩, ?_⟩⟩
        have e2 := (Same.new (o := .lst [.str first, .str second]) n2) _ _ elo
        have el2 : (upd H16 lf2 (.lst [.str first, .str second])) lf2 = some (.lst [.str first, .str second]) := upd_same
        have ne2 : lf2 ≠ lo := fun zz => by rw [zz, elo] at n2; cases n2
        generalize upd H16 lf2 (.lst [.str first, .str second]) = H17 at e2 el2 ⊢
        refine for_list (K := K) (a := lf2) (xs := [.str first, .str second]) (fun i σ H' => ∃ c x12 x13 x14 os, σ = [some (.ref a), some (.ref ls), some (.bl tap), some (.ref lm), some (.ref lt), x5, some (.str first), some (.str second), some (.ref le), some (.ref lf), some (.int c), some (.ref lo), x12, x13, x14, none] ∧ H' lo = some (.lst os) ∧ Txts os ∧ os.length = 2 + i ∧ H' lf2 = some (.lst [.str first, .str second]))
          ⟨c1 + 31 * c2 + 7 * c3, none, none, none, _, rfl, e2, Txts.cons (by omega) (Txts.cons (by omega) Txts.nil), rfl, el2⟩ (fun i σ H' _ ⟨_, _, _, _, _, _, _, _, _, e⟩ => SqL.of e) ?_ ?_
        · rintro i v σ H1 hv ⟨c, x12, x13, x14, os, rfl, eo, to, ol, e2'⟩
          obtain ⟨t, rfl, tl⟩ : ∃ t : Str, v = .str t ∧ t.length ≤ 60 := by
            match i, hv with
            | 0, hv => cases hv; exact ⟨first, rfl, fl⟩
            | 1, hv => cases hv; exact ⟨second, rfl, sl⟩
            | i + 2, hv => simp at hv
          have hi : i < 2 := (List.getElem?_eq_some_iff.mp hv).1
          have tz : t.length ≤ sizeLine := by rw [sizeLine_eq]; omega
          refine ⟨_, rfl, _, rfl, t, rfl, tz, _, _, rfl, rfl, c, 3, _, rfl, by decide, by omega, fun p H2 p0 p1 s2 => ?_⟩
          refine ⟨_, rfl, c, 4, 29, rfl, by decide, by decide, fun q H3 q0 q1 s3 => ?_⟩
          obtain ⟨n, rfl⟩ : ∃ n : Nat, q = (n : Int) := ⟨q.toNat, (Int.toNat_of_nonneg q0).symm⟩
          have SL : ("0123456789jugs tapourfilemty;" : Str).length = 29 := by decide +kernel
          have SL' : ("0123456789jugs tapourfilemty;" : Str).cps.toList.length = 29 := by decide +kernel
          have ech : ("0123456789jugs tapourfilemty;" : Str).cps.toList[n]? = some (("0123456789jugs tapourfilemty;" : Str).cps.toList[n]'(by omega)) := List.getElem?_eq_getElem (by omega)
          refine ⟨_, _, _, rfl, rfl, by rw [SL]; decide, atI_nat ech, (by show 2 ≤ sizeLine; decide), fun tt ntt => ?_⟩
          generalize ("0123456789jugs tapourfilemty;" : Str).cps.toList[n]'(by omega) = ch
          refine ⟨_, rfl, c, 5, 2, rfl, by decide, by decide, fun u H5 u0 u1 s5 => ?_⟩
          obtain ⟨sg, esg, lsg⟩ : ∃ sg : Str, atI [V.str "", V.str ⟨#[ch]⟩] u = some (.str sg) ∧ sg.length ≤ 1 := by
            have : u = 0 ∨ u = 1 := by omega
            rcases this with rfl | rfl
            · exact ⟨"", rfl, by decide +kernel⟩
            · exact ⟨⟨#[ch]⟩, rfl, Nat.le_refl 1⟩
          refine ⟨tt, _, u, _, rfl, rfl, SqT.of (s5 _ _ upd_same), esg, ?_⟩
          have s25 := (s2.trans s3).trans ((Same.new (o := .tup [V.str "", V.str ⟨#[ch]⟩]) ntt).trans s5)
          have eo5 := s25 _ _ eo
          refine ⟨_, rfl, .inl ⟨rfl, _, SqL.of eo5⟩, _, rfl, _, rfl, p, rfl, t, rfl, tz, fun z1 hz1 => ?_⟩
          refine ⟨_, rfl, _, _, rfl, rfl, by rw [sizeLine_eq]; omega, ?_⟩
          refine ⟨_, rfl, _, rfl, _, rfl, c, 6, 2, rfl, by decide, by decide, fun v6 H6 v60 v61 s6 => ⟨_, _, rfl, rfl, _, rfl, t, rfl, tz, fun z2 hz2 => ⟨_, _, rfl, rfl, by rw [Str.length_append, sizeLine_eq]; omega, ?_⟩⟩⟩
          refine ⟨lo, os, _, rfl, rfl, s6 _ _ eo5, small1000 (by omega), ?_⟩
          refine ⟨_, rfl, _, _, rfl, rfl, ?_⟩
          refine ⟨_, _, _, _, os ++ [V.str (z1 ++ sg ++ z2)], rfl, upd_same, to.app (Txts.cons (by rw [Str.length_append, Str.length_append]; omega) Txts.nil), by rw [List.length_append, ol]; rfl, ?_⟩
          rw [upd_ne ne2]
          exact s6 _ _ (s25 _ _ e2')
        · rintro σ H1 ⟨c, x12, x13, x14, os, rfl, eo, to, ol, e2'⟩
          exact ⟨_, _, _, _, _, _, _, _, _, _, _, _, _, _, os, rfl, eo, to, by rw [ol]; show 2 + 2 ≤ 10; decide⟩
      · rintro σ H1 ⟨x0, x1, x2, x3, x4, x5', x6, x7, x8, x9, x10, x12, x13, x14, os, rfl, eo, to, ol⟩
        refine ⟨_, rfl, rfl, fun lw ws H2 s2 elw tw lwl => ?_⟩
        refine ⟨lo, lw, _, _, rfl, rfl, s2 _ _ eo, elw, by rw [sizeLine_eq]; omega, fun r nr => ⟨r, rfl, ⟨_, SqL.of upd_same⟩, ?_⟩⟩
        have ta := to.app tw
        have la : (os ++ ws).length ≤ 110 := by rw [List.length_append]; omega
        generalize os ++ ws = al at ta la ⊢
        have er : (upd H2 r (.lst al)) r = some (.lst al) := upd_same
        generalize upd H2 r (.lst al) = H3' at er ⊢
        refine lc_list (K := K) (a := r) (xs := al) (fun i ys H' => Same H3' H' ∧ ys = List.replicate i (V.bl true)) ⟨Same.refl _, rfl⟩ (by rw [sizeLine_eq]; omega) (fun i ys H' ⟨_, e⟩ => by rw [e, List.length_replicate]; exact Nat.le_refl _) (fun i ys H' _ ⟨e, _⟩ => SqL.of (e _ _ er)) ?_ ?_
        · rintro i v ys H' hv ⟨sm, rfl⟩
          obtain ⟨t, rfl, tl⟩ := ta v (List.mem_of_getElem? hv)
          refine tYes_of ⟨_, rfl, t, rfl, tl, fun H4 s4 => ⟨sm.trans s4, ?_⟩⟩
          rw [List.replicate_succ']
        · rintro ys H' ⟨sm, rfl⟩ d nd'
          have eb : List.replicate al.length (V.bl true) = (List.replicate al.length true).map V.bl := by rw [List.map_replicate]
          refine ⟨d, List.replicate al.length true, rfl, SqL.of (upd_same.trans (by rw [eb])), ?_⟩
          have ea : (List.replicate al.length true).all id = true := by
            rw [List.all_eq_true]
            intro b hb
            rw [List.eq_of_mem_replicate hb]; rfl
          rw [ea]
          refine ⟨_, rfl, iteF ?_⟩
          refine ⟨(by show 1 ≤ sizeLine; decide), fun lj nlj => ⟨(by show 4 ≤ sizeLine; decide), fun lh nlh => ?_⟩⟩
          have ej := (Same.new (o := .lst [V.non, V.int 5, V.ref lj, V.bl true]) nlh) _ _ (upd_same (H := (upd H' d (.lst (List.replicate al.length (V.bl true))))) (a := lj) (o := .lst [V.str "jugs 3"]))
          have eh : (upd (upd (upd H' d (.lst (List.replicate al.length (V.bl true)))) lj (.lst [V.str "jugs 3"])) lh (.lst [V.non, V.int 5, V.ref lj, V.bl true])) lh = some (.lst [V.non, V.int 5, V.ref lj, V.bl true]) := upd_same
          generalize upd (upd (upd H' d (.lst (List.replicate al.length (V.bl true)))) lj (.lst [V.str "jugs 3"])) lh (.lst [V.non, V.int 5, V.ref lj, V.bl true]) = H5 at ej eh ⊢
          refine ⟨_, rfl, lh, rfl, ⟨_, SqL.of eh⟩, ?_⟩
          refine lc_list (K := K) (a := lh) (xs := [V.non, V.int 5, V.ref lj, V.bl true]) (fun i ys H' => Same H5 H' ∧ ys = List.replicate i (V.bl true)) ⟨Same.refl _, rfl⟩ (by show 4 < sizeLine; decide) (fun i ys H' ⟨_, e⟩ => by rw [e, List.length_replicate]; exact Nat.le_refl _) (fun i ys H' _ ⟨e, _⟩ => SqL.of (e _ _ eh)) ?_ ?_
          · rintro i v ys H6 hv ⟨sm, rfl⟩
            obtain ⟨tp, kd, nt⟩ : ∃ tp, Kd H6 v tp ∧ tp ≠ "str" := by
              match i, hv with
              | 0, hv => cases hv; exact ⟨_, .non, by decide⟩
              | 1, hv => cases hv; exact ⟨_, .int 5, by decide⟩
              | 2, hv => cases hv; exact ⟨_, .lst (sm _ _ ej), by decide⟩
              | 3, hv => cases hv; exact ⟨_, .bl true, by decide⟩
              | i + 4, hv => simp at hv
            refine tYes_of ⟨_, rfl, fh, v, rfl, Asks1.of Fh (by decide) kh bh (fun H7 s7 Q' E' hE => ⟨v, tp, rfl, kd.mono s7, nt, hE _ _ (Same.refl _)⟩), fun H7 s7 => ⟨_, rfl, iteT ?_⟩⟩
            refine ⟨_, rfl, fr, v, rfl, Asks1.of Fr (by decide) kr br (fun H8 s8 Q' E' hE => ⟨v, tp, rfl, (kd.mono s7).mono s8, nt, hE _ _ (Same.refl _)⟩), fun H8 s8 => ⟨(sm.trans s7).trans s8, ?_⟩⟩
            rw [List.replicate_succ']
          · rintro ys H6 ⟨sm, rfl⟩ d2 nd2
            refine ⟨d2, [true, true, true, true], rfl, SqL.of upd_same, ?_⟩
            exact k _
end
end Jug

namespace Jug
open PySem L2
theorem len1 {us : List Value} (h : us.length = 1) : ∃ a0, us = [a0] := match us, h with | [a0], _ => ⟨a0, rfl⟩
theorem len2 {us : List Value} (h : us.length = 2) : ∃ a0 a1, us = [a0, a1] := match us, h with | [a0, a1], _ => ⟨a0, a1, rfl⟩
theorem len3 {us : List Value} (h : us.length = 3) : ∃ a0 a1 a2, us = [a0, a1, a2] := match us, h with | [a0, a1, a2], _ => ⟨a0, a1, a2, rfl⟩
def spLaw (K : PySem.W.Frag) : Sp := sp_law7 K
theorem all_mk {l : PySem.W.OpenLaw} {w : World} {K : PySem.W.Frag} {h : Heap} {mg : Str → Option Value} {fa : Addr} (X : K.In h) (G : h.Ns mainGlobals mg) (hfa : mg "law" = some (.ref fa))
    {t_MOST_JUGS : Tok}
    {t_MOST_SIZE : Tok}
    {t_MOST_STATES : Tok}
    {t_MOST_FIGURES : Tok}
    {t_FIGURES : Tok}
    {C_Pour : Addr}
    {C_Fill : Addr}
    {C_Empty : Addr}
    {C_House : Addr}
    {C_JugError : Addr}
    {C_BadText : Addr}
    {C_BadGoal : Addr}
    {C_BadHouse : Addr}
    {C_BadMove : Addr}
    {C_BadState : Addr}
    {f0 : Addr} {oc0 kV0 dc0 pm0 cd0 ct0 : Value} {od0 an0 : Option Addr} {sl0 : Array (Option Value)}
    {f1 : Addr} {oc1 kV1 dc1 pm1 cd1 ct1 : Value} {od1 an1 : Option Addr} {sl1 : Array (Option Value)}
    {f2 : Addr} {oc2 kV2 dc2 pm2 cd2 ct2 : Value} {od2 an2 : Option Addr} {sl2 : Array (Option Value)}
    {f3 : Addr} {oc3 kV3 dc3 pm3 cd3 ct3 : Value} {od3 an3 : Option Addr} {sl3 : Array (Option Value)}
    {f4 : Addr} {oc4 kV4 dc4 pm4 cd4 ct4 : Value} {od4 an4 : Option Addr} {sl4 : Array (Option Value)}
    {f5 : Addr} {oc5 kV5 dc5 pm5 cd5 ct5 : Value} {od5 an5 : Option Addr} {sl5 : Array (Option Value)}
    {f6 : Addr} {oc6 kV6 dc6 pm6 cd6 ct6 : Value} {od6 an6 : Option Addr} {sl6 : Array (Option Value)}
    {f7 : Addr} {oc7 kV7 dc7 pm7 cd7 ct7 : Value} {od7 an7 : Option Addr} {sl7 : Array (Option Value)}
    {f8 : Addr} {oc8 kV8 dc8 pm8 cd8 ct8 : Value} {od8 an8 : Option Addr} {sl8 : Array (Option Value)}
    {f9 : Addr} {oc9 kV9 dc9 pm9 cd9 ct9 : Value} {od9 an9 : Option Addr} {sl9 : Array (Option Value)}
    {f10 : Addr} {oc10 kV10 dc10 pm10 cd10 ct10 : Value} {od10 an10 : Option Addr} {sl10 : Array (Option Value)}
    {f11 : Addr} {oc11 kV11 dc11 pm11 cd11 ct11 : Value} {od11 an11 : Option Addr} {sl11 : Array (Option Value)}
    {f12 : Addr} {oc12 kV12 dc12 pm12 cd12 ct12 : Value} {od12 an12 : Option Addr} {sl12 : Array (Option Value)}
    {f13 : Addr} {oc13 kV13 dc13 pm13 cd13 ct13 : Value} {od13 an13 : Option Addr} {sl13 : Array (Option Value)}
    {f14 : Addr} {oc14 kV14 dc14 pm14 cd14 ct14 : Value} {od14 an14 : Option Addr} {sl14 : Array (Option Value)}
    {f15 : Addr} {oc15 kV15 dc15 pm15 cd15 ct15 : Value} {od15 an15 : Option Addr} {sl15 : Array (Option Value)}
    {f16 : Addr} {oc16 kV16 dc16 pm16 cd16 ct16 : Value} {od16 an16 : Option Addr} {sl16 : Array (Option Value)}
    {f17 : Addr} {oc17 kV17 dc17 pm17 cd17 ct17 : Value} {od17 an17 : Option Addr} {sl17 : Array (Option Value)}
    {f18 : Addr} {oc18 kV18 dc18 pm18 cd18 ct18 : Value} {od18 an18 : Option Addr} {sl18 : Array (Option Value)}
    {f19 : Addr} {oc19 kV19 dc19 pm19 cd19 ct19 : Value} {od19 an19 : Option Addr} {sl19 : Array (Option Value)}
    {f20 : Addr} {oc20 kV20 dc20 pm20 cd20 ct20 : Value} {od20 an20 : Option Addr} {sl20 : Array (Option Value)}
    {f21 : Addr} {oc21 kV21 dc21 pm21 cd21 ct21 : Value} {od21 an21 : Option Addr} {sl21 : Array (Option Value)}
    {f22 : Addr} {oc22 kV22 dc22 pm22 cd22 ct22 : Value} {od22 an22 : Option Addr} {sl22 : Array (Option Value)}
    {f23 : Addr} {oc23 kV23 dc23 pm23 cd23 ct23 : Value} {od23 an23 : Option Addr} {sl23 : Array (Option Value)}
    {f24 : Addr} {oc24 kV24 dc24 pm24 cd24 ct24 : Value} {od24 an24 : Option Addr} {sl24 : Array (Option Value)}
    {f25 : Addr} {oc25 kV25 dc25 pm25 cd25 ct25 : Value} {od25 an25 : Option Addr} {sl25 : Array (Option Value)}
    {f26 : Addr} {oc26 kV26 dc26 pm26 cd26 ct26 : Value} {od26 an26 : Option Addr} {sl26 : Array (Option Value)}
    {f27 : Addr} {oc27 kV27 dc27 pm27 cd27 ct27 : Value} {od27 an27 : Option Addr} {sl27 : Array (Option Value)}
    {f28 : Addr} {oc28 kV28 dc28 pm28 cd28 ct28 : Value} {od28 an28 : Option Addr} {sl28 : Array (Option Value)}
    {f29 : Addr} {oc29 kV29 dc29 pm29 cd29 ct29 : Value} {od29 an29 : Option Addr} {sl29 : Array (Option Value)}
    {f30 : Addr} {oc30 kV30 dc30 pm30 cd30 ct30 : Value} {od30 an30 : Option Addr} {sl30 : Array (Option Value)}
    {f31 : Addr} {oc31 kV31 dc31 pm31 cd31 ct31 : Value} {od31 an31 : Option Addr} {sl31 : Array (Option Value)}
    {f32 : Addr} {oc32 kV32 dc32 pm32 cd32 ct32 : Value} {od32 an32 : Option Addr} {sl32 : Array (Option Value)}
    {f33 : Addr} {oc33 kV33 dc33 pm33 cd33 ct33 : Value} {od33 an33 : Option Addr} {sl33 : Array (Option Value)}
    (z_isinstance : PySem.W.nsIn K mainGlobals "isinstance" = some none)
    (z_int : PySem.W.nsIn K mainGlobals "int" = some none)
    (z_bool : PySem.W.nsIn K mainGlobals "bool" = some none)
    (z_tuple : PySem.W.nsIn K mainGlobals "tuple" = some none)
    (z_list : PySem.W.nsIn K mainGlobals "list" = some none)
    (z_len : PySem.W.nsIn K mainGlobals "len" = some none)
    (z_zip : PySem.W.nsIn K mainGlobals "zip" = some none)
    (z_range : PySem.W.nsIn K mainGlobals "range" = some none)
    (z_min : PySem.W.nsIn K mainGlobals "min" = some none)
    (z_str : PySem.W.nsIn K mainGlobals "str" = some none)
    (z_any : PySem.W.nsIn K mainGlobals "any" = some none)
    (z_all : PySem.W.nsIn K mainGlobals "all" = some none)
    (z_ValueError : PySem.W.nsIn K mainGlobals "ValueError" = some none)
    (z_MOST_JUGS : PySem.W.nsIn K mainGlobals "MOST_JUGS" = some (some (.int 4 t_MOST_JUGS)))
    (z_MOST_SIZE : PySem.W.nsIn K mainGlobals "MOST_SIZE" = some (some (.int 60 t_MOST_SIZE)))
    (z_MOST_STATES : PySem.W.nsIn K mainGlobals "MOST_STATES" = some (some (.int 2000 t_MOST_STATES)))
    (z_MOST_FIGURES : PySem.W.nsIn K mainGlobals "MOST_FIGURES" = some (some (.int 2 t_MOST_FIGURES)))
    (z_FIGURES : PySem.W.nsIn K mainGlobals "FIGURES" = some (some (.str "0123456789" t_FIGURES)))
    (a_Pour : PySem.W.nsIn K mainGlobals "Pour" = some (some (.ref C_Pour)))
    (pg_Pour : PySem.W.plainGet K C_Pour Str.empty = true)
    (hd_Pour : PySem.W.hasDictIn K C_Pour = true)
    (po_Pour : PySem.W.plainOver K C_Pour = true)
    (sa_Pour : PySem.W.findIn K (.ref C_Pour) "__setattr__" = some (some (.builtin "object.__setattr__")))
    (mk_Pour : PySem.W.makesIn K C_Pour = true)
    (kc_Pour : PySem.W.keepIn K (.ref C_Pour) = true)
    (n_Pour_one : PySem.W.findIn K (.ref C_Pour) "one" = some none)
    (n_Pour_other : PySem.W.findIn K (.ref C_Pour) "other" = some none)
    (ha_Pour : PySem.W.findIn K (.ref C_Pour) "__class__" = some (some (.builtin "object.__class__")))
    (hm_Pour : PySem.W.mroIn K C_Pour (.type "object") = some true)
    (a_Fill : PySem.W.nsIn K mainGlobals "Fill" = some (some (.ref C_Fill)))
    (pg_Fill : PySem.W.plainGet K C_Fill Str.empty = true)
    (hd_Fill : PySem.W.hasDictIn K C_Fill = true)
    (po_Fill : PySem.W.plainOver K C_Fill = true)
    (sa_Fill : PySem.W.findIn K (.ref C_Fill) "__setattr__" = some (some (.builtin "object.__setattr__")))
    (mk_Fill : PySem.W.makesIn K C_Fill = true)
    (kc_Fill : PySem.W.keepIn K (.ref C_Fill) = true)
    (n_Fill_jug : PySem.W.findIn K (.ref C_Fill) "jug" = some none)
    (ha_Fill : PySem.W.findIn K (.ref C_Fill) "__class__" = some (some (.builtin "object.__class__")))
    (hm_Fill : PySem.W.mroIn K C_Fill (.type "object") = some true)
    (a_Empty : PySem.W.nsIn K mainGlobals "Empty" = some (some (.ref C_Empty)))
    (pg_Empty : PySem.W.plainGet K C_Empty Str.empty = true)
    (hd_Empty : PySem.W.hasDictIn K C_Empty = true)
    (po_Empty : PySem.W.plainOver K C_Empty = true)
    (sa_Empty : PySem.W.findIn K (.ref C_Empty) "__setattr__" = some (some (.builtin "object.__setattr__")))
    (mk_Empty : PySem.W.makesIn K C_Empty = true)
    (kc_Empty : PySem.W.keepIn K (.ref C_Empty) = true)
    (n_Empty_jug : PySem.W.findIn K (.ref C_Empty) "jug" = some none)
    (ha_Empty : PySem.W.findIn K (.ref C_Empty) "__class__" = some (some (.builtin "object.__class__")))
    (hm_Empty : PySem.W.mroIn K C_Empty (.type "object") = some true)
    (a_House : PySem.W.nsIn K mainGlobals "House" = some (some (.ref C_House)))
    (pg_House : PySem.W.plainGet K C_House Str.empty = true)
    (hd_House : PySem.W.hasDictIn K C_House = true)
    (po_House : PySem.W.plainOver K C_House = true)
    (sa_House : PySem.W.findIn K (.ref C_House) "__setattr__" = some (some (.builtin "object.__setattr__")))
    (mk_House : PySem.W.makesIn K C_House = true)
    (kc_House : PySem.W.keepIn K (.ref C_House) = true)
    (n_House_jug_sizes : PySem.W.findIn K (.ref C_House) "jug_sizes" = some none)
    (n_House_tap : PySem.W.findIn K (.ref C_House) "tap" = some none)
    (a_JugError : PySem.W.nsIn K mainGlobals "JugError" = some (some (.ref C_JugError)))
    (ex_JugError : PySem.W.excIn K C_JugError bmV "ValueError.__new__" = true)
    (a_BadText : PySem.W.nsIn K mainGlobals "BadText" = some (some (.ref C_BadText)))
    (ex_BadText : PySem.W.excIn K C_BadText bmV "ValueError.__new__" = true)
    (a_BadGoal : PySem.W.nsIn K mainGlobals "BadGoal" = some (some (.ref C_BadGoal)))
    (a_BadHouse : PySem.W.nsIn K mainGlobals "BadHouse" = some (some (.ref C_BadHouse)))
    (ex_BadHouse : PySem.W.excIn K C_BadHouse bmV "ValueError.__new__" = true)
    (a_BadMove : PySem.W.nsIn K mainGlobals "BadMove" = some (some (.ref C_BadMove)))
    (ex_BadMove : PySem.W.excIn K C_BadMove bmV "ValueError.__new__" = true)
    (a_BadState : PySem.W.nsIn K mainGlobals "BadState" = some (some (.ref C_BadState)))
    (ga_BadText : PySem.W.findIn K (.ref C_BadText) "__getattribute__" = some (some (.builtin "BaseException.__getattribute__")))
    (gt_BadText : PySem.W.findIn K (.ref C_BadText) "__getattr__" = some none)
    (gc_BadText : PySem.W.findIn K (.ref C_BadText) "__class__" = some (some (.builtin "object.__class__")))
    (mb_BadText : PySem.W.mroIn K C_BadText (.type "BaseException") = some true)
    (mo_BadText : PySem.W.mroIn K C_BadText (.type "object") = some true)
    (is_BadText : (PySem.W.clsIn K C_BadText).isSome = true)
    (kv_BadText : PySem.W.kitOne K (.ref C_BadText) (.type "ValueError") = some true)
    (s_BadText_JugError : L2.subIn K C_BadText C_JugError = true)
    (s_BadHouse_BadHouse : L2.subIn K C_BadHouse C_BadHouse = true)
    (s_BadMove_BadMove : L2.subIn K C_BadMove C_BadMove = true)
    (s_BadText_BadMove : L2.subIn K C_BadText C_BadMove = false)
    (hn : PySem.W.specialIn K (.builtin "object.__class__") "__get__" = some (some (.builtin "getset_descriptor.__get__")))
    (htk : PySem.W.takesIn K (.builtin "object.__class__") = some true)
    (k_Fill_Pour : PySem.W.kitOne K (.ref C_Fill) (.ref C_Pour) = some false)
    (k_Empty_Pour : PySem.W.kitOne K (.ref C_Empty) (.ref C_Pour) = some false)
    (k_Empty_Fill : PySem.W.kitOne K (.ref C_Empty) (.ref C_Fill) = some false)
    (k_BadText_BadGoal : PySem.W.kitOne K (.ref C_BadText) (.ref C_BadGoal) = some false)
    (k_BadText_BadHouse : PySem.W.kitOne K (.ref C_BadText) (.ref C_BadHouse) = some false)
    (k_BadText_BadMove : PySem.W.kitOne K (.ref C_BadText) (.ref C_BadMove) = some false)
    (k_BadText_BadState : PySem.W.kitOne K (.ref C_BadText) (.ref C_BadState) = some false)
    (a0 : PySem.W.nsIn K mainGlobals "is_number" = some (some (.ref f0)))
    (l0 : K.lookup f0 = some ⟨oc0, od0, .func (PySem.W.fnOf "is_number" "is_number" (defArgs s_is_number) (defBody s_is_number) (defScope s_is_number) .none kV0 dc0 pm0 an0 cd0 ct0), sl0⟩)
    (c0 : PySem.W.codeIn K cd0 "is_number" = true)
    (kp0 : PySem.W.keepIn K (.ref f0) = true)
    (a1 : PySem.W.nsIn K mainGlobals "is_jug" = some (some (.ref f1)))
    (l1 : K.lookup f1 = some ⟨oc1, od1, .func (PySem.W.fnOf "is_jug" "is_jug" (defArgs s_is_jug) (defBody s_is_jug) (defScope s_is_jug) .none kV1 dc1 pm1 an1 cd1 ct1), sl1⟩)
    (c1 : PySem.W.codeIn K cd1 "is_jug" = true)
    (kp1 : PySem.W.keepIn K (.ref f1) = true)
    (a2_House : PySem.W.findIn K (.ref C_House) "sizes" = some (some (.ref f2)))
    (i2 : PySem.W.isFn K (.ref f2) = true)
    (l2 : K.lookup f2 = some ⟨oc2, od2, .func (PySem.W.fnOf "sizes" "House.sizes" (defArgs s_House_sizes) (defBody s_House_sizes) (defScope s_House_sizes) .none kV2 dc2 pm2 an2 cd2 ct2), sl2⟩)
    (c2 : PySem.W.codeIn K cd2 "House.sizes" = true)
    (kp2 : PySem.W.keepIn K (.ref f2) = true)
    (a3 : PySem.W.nsIn K mainGlobals "check_jug" = some (some (.ref f3)))
    (l3 : K.lookup f3 = some ⟨oc3, od3, .func (PySem.W.fnOf "check_jug" "check_jug" (defArgs s_check_jug) (defBody s_check_jug) (defScope s_check_jug) .none kV3 dc3 pm3 an3 cd3 ct3), sl3⟩)
    (c3 : PySem.W.codeIn K cd3 "check_jug" = true)
    (kp3 : PySem.W.keepIn K (.ref f3) = true)
    (a4_Pour : PySem.W.findIn K (.ref C_Pour) "__init__" = some (some (.ref f4)))
    (i4 : PySem.W.isFn K (.ref f4) = true)
    (l4 : K.lookup f4 = some ⟨oc4, od4, .func (PySem.W.fnOf "__init__" "Pour.__init__" (defArgs s_Pour_init) (defBody s_Pour_init) (defScope s_Pour_init) .none kV4 dc4 pm4 an4 cd4 ct4), sl4⟩)
    (c4 : PySem.W.codeIn K cd4 "Pour.__init__" = true)
    (kp4 : PySem.W.keepIn K (.ref f4) = true)
    (a5_Fill : PySem.W.findIn K (.ref C_Fill) "__init__" = some (some (.ref f5)))
    (i5 : PySem.W.isFn K (.ref f5) = true)
    (l5 : K.lookup f5 = some ⟨oc5, od5, .func (PySem.W.fnOf "__init__" "Fill.__init__" (defArgs s_Fill_init) (defBody s_Fill_init) (defScope s_Fill_init) .none kV5 dc5 pm5 an5 cd5 ct5), sl5⟩)
    (c5 : PySem.W.codeIn K cd5 "Fill.__init__" = true)
    (kp5 : PySem.W.keepIn K (.ref f5) = true)
    (a6_Empty : PySem.W.findIn K (.ref C_Empty) "__init__" = some (some (.ref f6)))
    (i6 : PySem.W.isFn K (.ref f6) = true)
    (l6 : K.lookup f6 = some ⟨oc6, od6, .func (PySem.W.fnOf "__init__" "Empty.__init__" (defArgs s_Empty_init) (defBody s_Empty_init) (defScope s_Empty_init) .none kV6 dc6 pm6 an6 cd6 ct6), sl6⟩)
    (c6 : PySem.W.codeIn K cd6 "Empty.__init__" = true)
    (kp6 : PySem.W.keepIn K (.ref f6) = true)
    (a7 : PySem.W.nsIn K mainGlobals "moves_in" = some (some (.ref f7)))
    (l7 : K.lookup f7 = some ⟨oc7, od7, .func (PySem.W.fnOf "moves_in" "moves_in" (defArgs s_moves_in) (defBody s_moves_in) (defScope s_moves_in) .none kV7 dc7 pm7 an7 cd7 ct7), sl7⟩)
    (c7 : PySem.W.codeIn K cd7 "moves_in" = true)
    (kp7 : PySem.W.keepIn K (.ref f7) = true)
    (a8 : PySem.W.nsIn K mainGlobals "count_states" = some (some (.ref f8)))
    (l8 : K.lookup f8 = some ⟨oc8, od8, .func (PySem.W.fnOf "count_states" "count_states" (defArgs s_count_states) (defBody s_count_states) (defScope s_count_states) .none kV8 dc8 pm8 an8 cd8 ct8), sl8⟩)
    (c8 : PySem.W.codeIn K cd8 "count_states" = true)
    (kp8 : PySem.W.keepIn K (.ref f8) = true)
    (a9 : PySem.W.nsIn K mainGlobals "sizes_in" = some (some (.ref f9)))
    (l9 : K.lookup f9 = some ⟨oc9, od9, .func (PySem.W.fnOf "sizes_in" "sizes_in" (defArgs s_sizes_in) (defBody s_sizes_in) (defScope s_sizes_in) .none kV9 dc9 pm9 an9 cd9 ct9), sl9⟩)
    (c9 : PySem.W.codeIn K cd9 "sizes_in" = true)
    (kp9 : PySem.W.keepIn K (.ref f9) = true)
    (a10_House : PySem.W.findIn K (.ref C_House) "__init__" = some (some (.ref f10)))
    (i10 : PySem.W.isFn K (.ref f10) = true)
    (l10 : K.lookup f10 = some ⟨oc10, od10, .func (PySem.W.fnOf "__init__" "House.__init__" (defArgs s_House_init) (defBody s_House_init) (defScope s_House_init) .none kV10 dc10 pm10 an10 cd10 ct10), sl10⟩)
    (c10 : PySem.W.codeIn K cd10 "House.__init__" = true)
    (kp10 : PySem.W.keepIn K (.ref f10) = true)
    (a11 : PySem.W.nsIn K mainGlobals "pours_among" = some (some (.ref f11)))
    (l11 : K.lookup f11 = some ⟨oc11, od11, .func (PySem.W.fnOf "pours_among" "pours_among" (defArgs s_pours_among) (defBody s_pours_among) (defScope s_pours_among) .none kV11 dc11 pm11 an11 cd11 ct11), sl11⟩)
    (c11 : PySem.W.codeIn K cd11 "pours_among" = true)
    (kp11 : PySem.W.keepIn K (.ref f11) = true)
    (a12_House : PySem.W.findIn K (.ref C_House) "moves" = some (some (.ref f12)))
    (i12 : PySem.W.isFn K (.ref f12) = true)
    (l12 : K.lookup f12 = some ⟨oc12, od12, .func (PySem.W.fnOf "moves" "House.moves" (defArgs s_House_moves) (defBody s_House_moves) (defScope s_House_moves) .none kV12 dc12 pm12 an12 cd12 ct12), sl12⟩)
    (c12 : PySem.W.codeIn K cd12 "House.moves" = true)
    (kp12 : PySem.W.keepIn K (.ref f12) = true)
    (a13 : PySem.W.nsIn K mainGlobals "house_text" = some (some (.ref f13)))
    (l13 : K.lookup f13 = some ⟨oc13, od13, .func (PySem.W.fnOf "house_text" "house_text" (defArgs s_house_text) (defBody s_house_text) (defScope s_house_text) .none kV13 dc13 pm13 an13 cd13 ct13), sl13⟩)
    (c13 : PySem.W.codeIn K cd13 "house_text" = true)
    (kp13 : PySem.W.keepIn K (.ref f13) = true)
    (a14 : PySem.W.nsIn K mainGlobals "move_text" = some (some (.ref f14)))
    (l14 : K.lookup f14 = some ⟨oc14, od14, .func (PySem.W.fnOf "move_text" "move_text" (defArgs s_move_text) (defBody s_move_text) (defScope s_move_text) .none kV14 dc14 pm14 an14 cd14 ct14), sl14⟩)
    (c14 : PySem.W.codeIn K cd14 "move_text" = true)
    (kp14 : PySem.W.keepIn K (.ref f14) = true)
    (a15 : PySem.W.nsIn K mainGlobals "routine_text" = some (some (.ref f15)))
    (l15 : K.lookup f15 = some ⟨oc15, od15, .func (PySem.W.fnOf "routine_text" "routine_text" (defArgs s_routine_text) (defBody s_routine_text) (defScope s_routine_text) .none kV15 dc15 pm15 an15 cd15 ct15), sl15⟩)
    (c15 : PySem.W.codeIn K cd15 "routine_text" = true)
    (kp15 : PySem.W.keepIn K (.ref f15) = true)
    (a16 : PySem.W.nsIn K mainGlobals "check_text" = some (some (.ref f16)))
    (l16 : K.lookup f16 = some ⟨oc16, od16, .func (PySem.W.fnOf "check_text" "check_text" (defArgs s_check_text) (defBody s_check_text) (defScope s_check_text) .none kV16 dc16 pm16 an16 cd16 ct16), sl16⟩)
    (c16 : PySem.W.codeIn K cd16 "check_text" = true)
    (kp16 : PySem.W.keepIn K (.ref f16) = true)
    (a17 : PySem.W.nsIn K mainGlobals "number_of" = some (some (.ref f17)))
    (l17 : K.lookup f17 = some ⟨oc17, od17, .func (PySem.W.fnOf "number_of" "number_of" (defArgs s_number_of) (defBody s_number_of) (defScope s_number_of) .none kV17 dc17 pm17 an17 cd17 ct17), sl17⟩)
    (c17 : PySem.W.codeIn K cd17 "number_of" = true)
    (kp17 : PySem.W.keepIn K (.ref f17) = true)
    (a18 : PySem.W.nsIn K mainGlobals "house_of" = some (some (.ref f18)))
    (l18 : K.lookup f18 = some ⟨oc18, od18, .func (PySem.W.fnOf "house_of" "house_of" (defArgs s_house_of) (defBody s_house_of) (defScope s_house_of) .none kV18 dc18 pm18 an18 cd18 ct18), sl18⟩)
    (c18 : PySem.W.codeIn K cd18 "house_of" = true)
    (kp18 : PySem.W.keepIn K (.ref f18) = true)
    (a19 : PySem.W.nsIn K mainGlobals "move_in_words" = some (some (.ref f19)))
    (l19 : K.lookup f19 = some ⟨oc19, od19, .func (PySem.W.fnOf "move_in_words" "move_in_words" (defArgs s_move_in_words) (defBody s_move_in_words) (defScope s_move_in_words) .none kV19 dc19 pm19 an19 cd19 ct19), sl19⟩)
    (c19 : PySem.W.codeIn K cd19 "move_in_words" = true)
    (kp19 : PySem.W.keepIn K (.ref f19) = true)
    (a20 : PySem.W.nsIn K mainGlobals "move_of" = some (some (.ref f20)))
    (l20 : K.lookup f20 = some ⟨oc20, od20, .func (PySem.W.fnOf "move_of" "move_of" (defArgs s_move_of) (defBody s_move_of) (defScope s_move_of) .none kV20 dc20 pm20 an20 cd20 ct20), sl20⟩)
    (c20 : PySem.W.codeIn K cd20 "move_of" = true)
    (kp20 : PySem.W.keepIn K (.ref f20) = true)
    (a21 : PySem.W.nsIn K mainGlobals "routine_of" = some (some (.ref f21)))
    (l21 : K.lookup f21 = some ⟨oc21, od21, .func (PySem.W.fnOf "routine_of" "routine_of" (defArgs s_routine_of) (defBody s_routine_of) (defScope s_routine_of) .none kV21 dc21 pm21 an21 cd21 ct21), sl21⟩)
    (c21 : PySem.W.codeIn K cd21 "routine_of" = true)
    (kp21 : PySem.W.keepIn K (.ref f21) = true)
    (a22 : PySem.W.nsIn K mainGlobals "_law_cell_at" = some (some (.ref f22)))
    (l22 : K.lookup f22 = some ⟨oc22, od22, .func (PySem.W.fnOf "_law_cell_at" "_law_cell_at" (defArgs s__law_cell_at) (defBody s__law_cell_at) (defScope s__law_cell_at) .none kV22 dc22 pm22 an22 cd22 ct22), sl22⟩)
    (c22 : PySem.W.codeIn K cd22 "_law_cell_at" = true)
    (kp22 : PySem.W.keepIn K (.ref f22) = true)
    (a23 : PySem.W.nsIn K mainGlobals "_law_draw" = some (some (.ref f23)))
    (l23 : K.lookup f23 = some ⟨oc23, od23, .func (PySem.W.fnOf "_law_draw" "_law_draw" (defArgs s__law_draw) (defBody s__law_draw) (defScope s__law_draw) .none kV23 dc23 pm23 an23 cd23 ct23), sl23⟩)
    (c23 : PySem.W.codeIn K cd23 "_law_draw" = true)
    (kp23 : PySem.W.keepIn K (.ref f23) = true)
    (a24 : PySem.W.nsIn K mainGlobals "_law_sizes" = some (some (.ref f24)))
    (l24 : K.lookup f24 = some ⟨oc24, od24, .func (PySem.W.fnOf "_law_sizes" "_law_sizes" (defArgs s__law_sizes) (defBody s__law_sizes) (defScope s__law_sizes) .none kV24 dc24 pm24 an24 cd24 ct24), sl24⟩)
    (c24 : PySem.W.codeIn K cd24 "_law_sizes" = true)
    (kp24 : PySem.W.keepIn K (.ref f24) = true)
    (a25 : PySem.W.nsIn K mainGlobals "_law_all_moves" = some (some (.ref f25)))
    (l25 : K.lookup f25 = some ⟨oc25, od25, .func (PySem.W.fnOf "_law_all_moves" "_law_all_moves" (defArgs s__law_all_moves) (defBody s__law_all_moves) (defScope s__law_all_moves) .none kV25 dc25 pm25 an25 cd25 ct25), sl25⟩)
    (c25 : PySem.W.codeIn K cd25 "_law_all_moves" = true)
    (kp25 : PySem.W.keepIn K (.ref f25) = true)
    (a26 : PySem.W.nsIn K mainGlobals "_law_move_text" = some (some (.ref f26)))
    (l26 : K.lookup f26 = some ⟨oc26, od26, .func (PySem.W.fnOf "_law_move_text" "_law_move_text" (defArgs s__law_move_text) (defBody s__law_move_text) (defScope s__law_move_text) .none kV26 dc26 pm26 an26 cd26 ct26), sl26⟩)
    (c26 : PySem.W.codeIn K cd26 "_law_move_text" = true)
    (kp26 : PySem.W.keepIn K (.ref f26) = true)
    (a27 : PySem.W.nsIn K mainGlobals "_law_number" = some (some (.ref f27)))
    (l27 : K.lookup f27 = some ⟨oc27, od27, .func (PySem.W.fnOf "_law_number" "_law_number" (defArgs s__law_number) (defBody s__law_number) (defScope s__law_number) .none kV27 dc27 pm27 an27 cd27 ct27), sl27⟩)
    (c27 : PySem.W.codeIn K cd27 "_law_number" = true)
    (kp27 : PySem.W.keepIn K (.ref f27) = true)
    (a28 : PySem.W.nsIn K mainGlobals "_law_house_in" = some (some (.ref f28)))
    (l28 : K.lookup f28 = some ⟨oc28, od28, .func (PySem.W.fnOf "_law_house_in" "_law_house_in" (defArgs s__law_house_in) (defBody s__law_house_in) (defScope s__law_house_in) .none kV28 dc28 pm28 an28 cd28 ct28), sl28⟩)
    (c28 : PySem.W.codeIn K cd28 "_law_house_in" = true)
    (kp28 : PySem.W.keepIn K (.ref f28) = true)
    (a29 : PySem.W.nsIn K mainGlobals "_law_writes" = some (some (.ref f29)))
    (l29 : K.lookup f29 = some ⟨oc29, od29, .func (PySem.W.fnOf "_law_writes" "_law_writes" (defArgs s__law_writes) (defBody s__law_writes) (defScope s__law_writes) .none kV29 dc29 pm29 an29 cd29 ct29), sl29⟩)
    (c29 : PySem.W.codeIn K cd29 "_law_writes" = true)
    (kp29 : PySem.W.keepIn K (.ref f29) = true)
    (a30 : PySem.W.nsIn K mainGlobals "_law_refused" = some (some (.ref f30)))
    (l30 : K.lookup f30 = some ⟨oc30, od30, .func (PySem.W.fnOf "_law_refused" "_law_refused" (defArgs s__law_refused) (defBody s__law_refused) (defScope s__law_refused) .none kV30 dc30 pm30 an30 cd30 ct30), sl30⟩)
    (c30 : PySem.W.codeIn K cd30 "_law_refused" = true)
    (kp30 : PySem.W.keepIn K (.ref f30) = true)
    (a31 : PySem.W.nsIn K mainGlobals "_law_right" = some (some (.ref f31)))
    (l31 : K.lookup f31 = some ⟨oc31, od31, .func (PySem.W.fnOf "_law_right" "_law_right" (defArgs s__law_right) (defBody s__law_right) (defScope s__law_right) .none kV31 dc31 pm31 an31 cd31 ct31), sl31⟩)
    (c31 : PySem.W.codeIn K cd31 "_law_right" = true)
    (kp31 : PySem.W.keepIn K (.ref f31) = true)
    (a32 : PySem.W.nsIn K mainGlobals "_law_few" = some (some (.ref f32)))
    (l32 : K.lookup f32 = some ⟨oc32, od32, .func (PySem.W.fnOf "_law_few" "_law_few" (defArgs s__law_few) (defBody s__law_few) (defScope s__law_few) .none kV32 dc32 pm32 an32 cd32 ct32), sl32⟩)
    (c32 : PySem.W.codeIn K cd32 "_law_few" = true)
    (kp32 : PySem.W.keepIn K (.ref f32) = true)
    (a33 : PySem.W.nsIn K mainGlobals "law" = some (some (.ref f33)))
    (l33 : K.lookup f33 = some ⟨oc33, od33, .func (PySem.W.fnOf "law" "law" (defArgs s_law) (defBody s_law) (defScope s_law) .none kV33 dc33 pm33 an33 cd33 ct33), sl33⟩)
    (c33 : PySem.W.codeIn K cd33 "law" = true)
    (kp33 : PySem.W.keepIn K (.ref f33) = true)
    : ∃ fd : FuncData, (∀ (s : Shared) (v : Value), BindsTo s fd ⟨[v], []⟩ [("_law_script", v)]) ∧ ∀ base : Heap, K.In base → base.Ns mainGlobals mg → FnOk l.prog w K mg base CX0 11 fa fd ["_law_script"] (spLaw K) := by
  have e := hfa.symm.trans (PySem.W.mg_of X G a33)
  cases e
  have F0 := fun_mk (st := s_is_number) l0 c0 kp0
  have b0 := F0.binds (ps := ["value", "least", "most"]) fun _ _ _ _ _ _ us hl => by obtain ⟨_, _, _, rfl⟩ := len3 hl; rfl
  have F1 := fun_mk (st := s_is_jug) l1 c1 kp1
  have b1 := F1.binds (ps := ["value"]) fun _ _ _ _ _ _ us hl => by obtain ⟨_, rfl⟩ := len1 hl; rfl
  have F2 := fun_mk (st := s_House_sizes) l2 c2 kp2
  have b2 := F2.binds (ps := ["self"]) fun _ _ _ _ _ _ us hl => by obtain ⟨_, rfl⟩ := len1 hl; rfl
  have F3 := fun_mk (st := s_check_jug) l3 c3 kp3
  have b3 := F3.binds (ps := ["jug"]) fun _ _ _ _ _ _ us hl => by obtain ⟨_, rfl⟩ := len1 hl; rfl
  have F4 := fun_mk (st := s_Pour_init) l4 c4 kp4
  have b4 := F4.binds (ps := ["self", "one", "other"]) fun _ _ _ _ _ _ us hl => by obtain ⟨_, _, _, rfl⟩ := len3 hl; rfl
  have F5 := fun_mk (st := s_Fill_init) l5 c5 kp5
  have b5 := F5.binds (ps := ["self", "jug"]) fun _ _ _ _ _ _ us hl => by obtain ⟨_, _, rfl⟩ := len2 hl; rfl
  have F6 := fun_mk (st := s_Empty_init) l6 c6 kp6
  have b6 := F6.binds (ps := ["self", "jug"]) fun _ _ _ _ _ _ us hl => by obtain ⟨_, _, rfl⟩ := len2 hl; rfl
  have F7 := fun_mk (st := s_moves_in) l7 c7 kp7
  have b7 := F7.binds (ps := ["moves"]) fun _ _ _ _ _ _ us hl => by obtain ⟨_, rfl⟩ := len1 hl; rfl
  have F8 := fun_mk (st := s_count_states) l8 c8 kp8
  have b8 := F8.binds (ps := ["sizes"]) fun _ _ _ _ _ _ us hl => by obtain ⟨_, rfl⟩ := len1 hl; rfl
  have F9 := fun_mk (st := s_sizes_in) l9 c9 kp9
  have b9 := F9.binds (ps := ["sizes"]) fun _ _ _ _ _ _ us hl => by obtain ⟨_, rfl⟩ := len1 hl; rfl
  have F10 := fun_mk (st := s_House_init) l10 c10 kp10
  have b10 := F10.binds (ps := ["self", "sizes", "tap"]) fun _ _ _ _ _ _ us hl => by obtain ⟨_, _, _, rfl⟩ := len3 hl; rfl
  have F11 := fun_mk (st := s_pours_among) l11 c11 kp11
  have b11 := F11.binds (ps := ["many"]) fun _ _ _ _ _ _ us hl => by obtain ⟨_, rfl⟩ := len1 hl; rfl
  have F12 := fun_mk (st := s_House_moves) l12 c12 kp12
  have b12 := F12.binds (ps := ["self"]) fun _ _ _ _ _ _ us hl => by obtain ⟨_, rfl⟩ := len1 hl; rfl
  have F13 := fun_mk (st := s_house_text) l13 c13 kp13
  have b13 := F13.binds (ps := ["house"]) fun _ _ _ _ _ _ us hl => by obtain ⟨_, rfl⟩ := len1 hl; rfl
  have F14 := fun_mk (st := s_move_text) l14 c14 kp14
  have b14 := F14.binds (ps := ["move"]) fun _ _ _ _ _ _ us hl => by obtain ⟨_, rfl⟩ := len1 hl; rfl
  have F15 := fun_mk (st := s_routine_text) l15 c15 kp15
  have b15 := F15.binds (ps := ["moves"]) fun _ _ _ _ _ _ us hl => by obtain ⟨_, rfl⟩ := len1 hl; rfl
  have F16 := fun_mk (st := s_check_text) l16 c16 kp16
  have b16 := F16.binds (ps := ["text"]) fun _ _ _ _ _ _ us hl => by obtain ⟨_, rfl⟩ := len1 hl; rfl
  have F17 := fun_mk (st := s_number_of) l17 c17 kp17
  have b17 := F17.binds (ps := ["word"]) fun _ _ _ _ _ _ us hl => by obtain ⟨_, rfl⟩ := len1 hl; rfl
  have F18 := fun_mk (st := s_house_of) l18 c18 kp18
  have b18 := F18.binds (ps := ["text"]) fun _ _ _ _ _ _ us hl => by obtain ⟨_, rfl⟩ := len1 hl; rfl
  have F19 := fun_mk (st := s_move_in_words) l19 c19 kp19
  have b19 := F19.binds (ps := ["sort", "jugs"]) fun _ _ _ _ _ _ us hl => by obtain ⟨_, _, rfl⟩ := len2 hl; rfl
  have F20 := fun_mk (st := s_move_of) l20 c20 kp20
  have b20 := F20.binds (ps := ["text"]) fun _ _ _ _ _ _ us hl => by obtain ⟨_, rfl⟩ := len1 hl; rfl
  have F21 := fun_mk (st := s_routine_of) l21 c21 kp21
  have b21 := F21.binds (ps := ["text"]) fun _ _ _ _ _ _ us hl => by obtain ⟨_, rfl⟩ := len1 hl; rfl
  have F22 := fun_mk (st := s__law_cell_at) l22 c22 kp22
  have b22 := F22.binds (ps := ["_law_script", "_law_k"]) fun _ _ _ _ _ _ us hl => by obtain ⟨_, _, rfl⟩ := len2 hl; rfl
  have F23 := fun_mk (st := s__law_draw) l23 c23 kp23
  have b23 := F23.binds (ps := ["_law_cell", "_law_k", "_law_many"]) fun _ _ _ _ _ _ us hl => by obtain ⟨_, _, _, rfl⟩ := len3 hl; rfl
  have F24 := fun_mk (st := s__law_sizes) l24 c24 kp24
  have b24 := F24.binds (ps := ["_law_cell"]) fun _ _ _ _ _ _ us hl => by obtain ⟨_, rfl⟩ := len1 hl; rfl
  have F25 := fun_mk (st := s__law_all_moves) l25 c25 kp25
  have b25 := F25.binds (ps := ["_law_sizes_here", "_law_tap"]) fun _ _ _ _ _ _ us hl => by obtain ⟨_, _, rfl⟩ := len2 hl; rfl
  have F26 := fun_mk (st := s__law_move_text) l26 c26 kp26
  have b26 := F26.binds (ps := ["_law_told"]) fun _ _ _ _ _ _ us hl => by obtain ⟨_, rfl⟩ := len1 hl; rfl
  have F27 := fun_mk (st := s__law_number) l27 c27 kp27
  have b27 := F27.binds (ps := ["_law_text", "_law_most"]) fun _ _ _ _ _ _ us hl => by obtain ⟨_, _, rfl⟩ := len2 hl; rfl
  have F28 := fun_mk (st := s__law_house_in) l28 c28 kp28
  have b28 := F28.binds (ps := ["_law_text"]) fun _ _ _ _ _ _ us hl => by obtain ⟨_, rfl⟩ := len1 hl; rfl
  have F29 := fun_mk (st := s__law_writes) l29 c29 kp29
  have b29 := F29.binds (ps := ["_law_text"]) fun _ _ _ _ _ _ us hl => by obtain ⟨_, rfl⟩ := len1 hl; rfl
  have F30 := fun_mk (st := s__law_refused) l30 c30 kp30
  have b30 := F30.binds (ps := ["_law_ask", "_law_text"]) fun _ _ _ _ _ _ us hl => by obtain ⟨_, _, rfl⟩ := len2 hl; rfl
  have F31 := fun_mk (st := s__law_right) l31 c31 kp31
  have b31 := F31.binds (ps := ["_law_text"]) fun _ _ _ _ _ _ us hl => by obtain ⟨_, rfl⟩ := len1 hl; rfl
  have F32 := fun_mk (st := s__law_few) l32 c32 kp32
  have b32 := F32.binds (ps := []) fun _ _ _ _ _ _ us hl => by obtain rfl := List.length_eq_zero_iff.mp hl; rfl
  have F33 := fun_mk (st := s_law) l33 c33 kp33
  have b33 := F33.binds (ps := ["_law_script"]) fun _ _ _ _ _ _ us hl => by obtain ⟨_, rfl⟩ := len1 hl; rfl
  have g := fun {x : Str} {v : Value} (q : PySem.W.nsIn K mainGlobals x = some (some v)) => PySem.W.mg_of X G q
  have g0 := fun {x : Str} (q : PySem.W.nsIn K mainGlobals x = some none) => PySem.W.mg_none_of X G q
  have B : Bt mg := ⟨g0 z_isinstance, g0 z_int, g0 z_bool, g0 z_tuple, g0 z_list, g0 z_len, g0 z_zip, g0 z_range, g0 z_min, g0 z_str, ⟨_, g z_MOST_JUGS⟩, ⟨_, g z_MOST_SIZE⟩⟩
  have cl_Pour : Cls K C_Pour := ⟨pg_Pour, hd_Pour, po_Pour, sa_Pour⟩
  have cl_Fill : Cls K C_Fill := ⟨pg_Fill, hd_Fill, po_Fill, sa_Fill⟩
  have cl_Empty : Cls K C_Empty := ⟨pg_Empty, hd_Empty, po_Empty, sa_Empty⟩
  have cl_House : Cls K C_House := ⟨pg_House, hd_House, po_House, sa_House⟩
  have CHo : CHs K C_House := ⟨cl_House, n_House_jug_sizes, n_House_tap⟩
  let Zz : Cz := ⟨C_Pour, C_Fill, C_Empty⟩
  have M : MvC K mg Zz := ⟨⟨cl_Pour, n_Pour_one, n_Pour_other⟩, ⟨cl_Fill, n_Fill_jug⟩, ⟨cl_Empty, n_Empty_jug⟩, ⟨ha_Pour, hn, htk, hm_Pour⟩, ⟨ha_Fill, hn, htk, hm_Fill⟩, ⟨ha_Empty, hn, htk, hm_Empty⟩, g a_Pour, g a_Fill, g a_Empty, k_Fill_Pour, k_Empty_Pour, k_Empty_Fill⟩
  let zz : Tz := ⟨C_JugError, C_BadText, C_BadGoal, C_BadHouse, C_BadMove, C_BadState⟩
  have E : TzC K mg zz := ⟨⟨g a_JugError, ex_JugError⟩, ⟨g a_BadText, ex_BadText⟩, g a_BadGoal, g a_BadHouse, g a_BadMove, g a_BadState, g0 z_ValueError, ⟨ga_BadText, gt_BadText, gc_BadText, mb_BadText, mo_BadText, is_BadText⟩, s_BadText_JugError, k_BadText_BadGoal, k_BadText_BadHouse, k_BadText_BadMove, k_BadText_BadState, kv_BadText⟩
  have xM : XC K mg "BadMove" C_BadMove := ⟨g a_BadMove, ex_BadMove⟩
  have xB : XC K mg "BadHouse" C_BadHouse := ⟨g a_BadHouse, ex_BadHouse⟩
  refine ⟨PySem.W.fnOf "law" "law" (defArgs s_law) (defBody s_law) (defScope s_law) .none kV33 dc33 pm33 an33 cd33 ct33, fun s v => .of_eq rfl, fun base KB _ => ?_⟩
  have o0_q := ok_is_number (P := l.prog) (w := w) (base := base) F0 B
  have q0 : FnB l.prog w K mg base 1 "is_number" ["value", "least", "most"] _ := ⟨_, _, o0_q, g a0, kp0, b0⟩
  have o0_n := ok_is_numG (P := l.prog) (w := w) (base := base) F0 B
  have n0 : FnB l.prog w K mg base 1 "is_number" ["value", "least", "most"] _ := ⟨_, _, o0_n, g a0, kp0, b0⟩
  have o1_q := ok_is_jug F1 B q0
  have q1 : FnB l.prog w K mg base 2 "is_jug" ["value"] _ := ⟨_, _, o1_q, g a1, kp1, b1⟩
  have o1_n := ok_is_jugG F1 B n0
  have n1 : FnB l.prog w K mg base 2 "is_jug" ["value"] _ := ⟨_, _, o1_n, g a1, kp1, b1⟩
  have o2_q := ok_sizes (P := l.prog) (w := w) (base := base) F2 B CHo
  have q2 : MeB l.prog w K mg base 1 C_House "sizes" ["self"] _ := ⟨_, _, o2_q, ⟨a2_House, i2, kp2⟩, b2, cl_House⟩
  have o3_q := ok_check_jug F3 q1
  have q3 : FnB l.prog w K mg base 3 "check_jug" ["jug"] _ := ⟨_, _, o3_q, g a3, kp3, b3⟩
  have o3_x := ok_check_jugX F3 xM n1
  have x3 : FnX l.prog w K mg base 3 "check_jug" ["jug"] _ := ⟨_, _, o3_x, g a3, kp3, b3⟩
  have o4_q := ok_Pour_init (Z := Zz) F4 M.po q3
  have q4 : MkB l.prog w K mg base 4 "Pour" C_Pour ["self", "one", "other"] _ := ⟨_, _, o4_q, g a_Pour, ⟨mk_Pour, a4_Pour, i4, kc_Pour⟩, b4⟩
  have o4_x := ok_Pour_initX F4 xM q3 x3
  have x4 : MkX l.prog w K mg base 4 "Pour" C_Pour ["self", "one", "other"] _ := ⟨_, _, o4_x, g a_Pour, ⟨mk_Pour, a4_Pour, i4, kc_Pour⟩, b4⟩
  have d4 : MkX l.prog w K mg base 4 "Pour" C_Pour ["self", "one", "other"] (sp_Pour2 Zz C_BadMove) := ⟨_, _, (Jug.FnOk.or (FnOk.up o4_q) o4_x), g a_Pour, ⟨mk_Pour, a4_Pour, i4, kc_Pour⟩, b4⟩
  have o5_q := ok_Fill_init (Z := Zz) F5 M.fi q3
  have q5 : MkB l.prog w K mg base 4 "Fill" C_Fill ["self", "jug"] _ := ⟨_, _, o5_q, g a_Fill, ⟨mk_Fill, a5_Fill, i5, kc_Fill⟩, b5⟩
  have o5_x := ok_Fill_initX F5 x3
  have x5 : MkX l.prog w K mg base 4 "Fill" C_Fill ["self", "jug"] _ := ⟨_, _, o5_x, g a_Fill, ⟨mk_Fill, a5_Fill, i5, kc_Fill⟩, b5⟩
  have d5 : MkX l.prog w K mg base 4 "Fill" C_Fill ["self", "jug"] (sp_jug2 C_Fill C_BadMove) := ⟨_, _, (Jug.FnOk.or (FnOk.up o5_q) o5_x), g a_Fill, ⟨mk_Fill, a5_Fill, i5, kc_Fill⟩, b5⟩
  have o6_q := ok_Empty_init (Z := Zz) F6 M.em q3
  have q6 : MkB l.prog w K mg base 4 "Empty" C_Empty ["self", "jug"] _ := ⟨_, _, o6_q, g a_Empty, ⟨mk_Empty, a6_Empty, i6, kc_Empty⟩, b6⟩
  have o6_x := ok_Empty_initX F6 x3
  have x6 : MkX l.prog w K mg base 4 "Empty" C_Empty ["self", "jug"] _ := ⟨_, _, o6_x, g a_Empty, ⟨mk_Empty, a6_Empty, i6, kc_Empty⟩, b6⟩
  have d6 : MkX l.prog w K mg base 4 "Empty" C_Empty ["self", "jug"] (sp_jug2 C_Empty C_BadMove) := ⟨_, _, (Jug.FnOk.or (FnOk.up o6_q) o6_x), g a_Empty, ⟨mk_Empty, a6_Empty, i6, kc_Empty⟩, b6⟩
  have o7_q := ok_moves_in (P := l.prog) (w := w) (base := base) (Z := Zz) F7 B M
  have q7 : FnB l.prog w K mg base 1 "moves_in" ["moves"] _ := ⟨_, _, o7_q, g a7, kp7, b7⟩
  have o8_q := ok_count_states (P := l.prog) (w := w) (mg := mg) (base := base) F8
  have q8 : FnB l.prog w K mg base 1 "count_states" ["sizes"] _ := ⟨_, _, o8_q, g a8, kp8, b8⟩
  have o9_q := ok_sizes_in F9 B ⟨_, g z_MOST_STATES⟩ q0 q8
  have q9 : FnB l.prog w K mg base 2 "sizes_in" ["sizes"] _ := ⟨_, _, o9_q, g a9, kp9, b9⟩
  have o9_x := ok_sizes_inX F9 B ⟨_, g z_MOST_STATES⟩ xB n0 q8
  have x9 : FnX l.prog w K mg base 2 "sizes_in" ["sizes"] _ := ⟨_, _, o9_x, g a9, kp9, b9⟩
  have o10_q := ok_House_init F10 B CHo q9
  have q10 : MkB l.prog w K mg base 3 "House" C_House ["self", "sizes", "tap"] _ := ⟨_, _, o10_q, g a_House, ⟨mk_House, a10_House, i10, kc_House⟩, b10⟩
  have o10_x := ok_House_initX F10 B CHo xB q9 x9
  have x10 : MkX l.prog w K mg base 3 "House" C_House ["self", "sizes", "tap"] _ := ⟨_, _, o10_x, g a_House, ⟨mk_House, a10_House, i10, kc_House⟩, b10⟩
  have d10 : MkX l.prog w K mg base 3 "House" C_House ["self", "sizes", "tap"] (sp_House2 C_House C_BadHouse) := ⟨_, _, (Jug.FnOk.or (FnOk.up o10_q) o10_x), g a_House, ⟨mk_House, a10_House, i10, kc_House⟩, b10⟩
  have o11_q := ok_pours_among (Z := Zz) F11 B q4
  have q11 : FnB l.prog w K mg base 6 "pours_among" ["many"] _ := ⟨_, _, o11_q, g a11, kp11, b11⟩
  have o12_q := ok_moves (Z := Zz) F12 B CHo q11 q5 q6
  have q12 : MeB l.prog w K mg base 7 C_House "moves" ["self"] _ := ⟨_, _, o12_q, ⟨a12_House, i12, kp12⟩, b12, cl_House⟩
  have o13_q := ok_house_text F13 B.str CHo q2
  have q13 : FnB l.prog w K mg base 2 "house_text" ["house"] _ := ⟨_, _, o13_q, g a13, kp13, b13⟩
  have o14_q := ok_move_text (P := l.prog) (w := w) (base := base) F14 B B.str M
  have q14 : FnB l.prog w K mg base 1 "move_text" ["move"] _ := ⟨_, _, o14_q, g a14, kp14, b14⟩
  have o15_q := ok_routine_text (Z := Zz) F15 q7 q14
  have q15 : FnB l.prog w K mg base 2 "routine_text" ["moves"] _ := ⟨_, _, o15_q, g a15, kp15, b15⟩
  have o16_x := ok_check_text (P := l.prog) (w := w) (base := base) F16 B B.str E.xT
  have x16 : FnX l.prog w K mg base 1 "check_text" ["text"] _ := ⟨_, _, o16_x, g a16, kp16, b16⟩
  have o17_x := ok_number_of (P := l.prog) (w := w) (base := base) F17 B ⟨_, g z_MOST_FIGURES⟩ ⟨_, g z_FIGURES⟩ E.xT
  have x17 : FnX l.prog w K mg base 1 "number_of" ["word"] _ := ⟨_, _, o17_x, g a17, kp17, b17⟩
  have o18_x := ok_house_of F18 B E.xT xB s_BadHouse_BadHouse x16 x17 d10
  have x18 : FnX l.prog w K mg base 5 "house_of" ["text"] _ := ⟨_, _, o18_x, g a18, kp18, b18⟩
  have o18_n := ok_house_ofN (z := zz) F18 x16
  have n18 : FnX l.prog w K mg base 2 "house_of" ["text"] _ := ⟨_, _, o18_n, g a18, kp18, b18⟩
  have o19_x := ok_miw (Z := Zz) F19 B E.xT d4 d5 d6
  have x19 : FnX l.prog w K mg base 6 "move_in_words" ["sort", "jugs"] _ := ⟨_, _, o19_x, g a19, kp19, b19⟩
  have o20_x := ok_move_of (Z := Zz) F20 E.xT xM s_BadMove_BadMove s_BadText_BadMove x17 x19
  have x20 : FnX l.prog w K mg base 7 "move_of" ["text"] _ := ⟨_, _, o20_x, g a20, kp20, b20⟩
  have o21_x := ok_routine_of (Z := Zz) F21 x16 x20
  have x21 : FnX l.prog w K mg base 8 "routine_of" ["text"] _ := ⟨_, _, o21_x, g a21, kp21, b21⟩
  have o21_n := ok_routine_ofN (z := zz) F21 x16
  have n21 : FnX l.prog w K mg base 2 "routine_of" ["text"] _ := ⟨_, _, o21_n, g a21, kp21, b21⟩
  have o22_q := ok_cell_at (P := l.prog) (w := w) (base := base) F22 B
  have q22 : FnB l.prog w K mg base 1 "_law_cell_at" ["_law_script", "_law_k"] _ := ⟨_, _, o22_q, g a22, kp22, b22⟩
  have o23_q := ok_draw (P := l.prog) (w := w) (mg := mg) (base := base) F23
  have q23 : FnB l.prog w K mg base 1 "_law_draw" ["_law_cell", "_law_k", "_law_many"] _ := ⟨_, _, o23_q, g a23, kp23, b23⟩
  have o24_q := ok_law_sizes F24 B q23
  have q24 : FnB l.prog w K mg base 2 "_law_sizes" ["_law_cell"] _ := ⟨_, _, o24_q, g a24, kp24, b24⟩
  have o25_q := ok_all_moves (P := l.prog) (w := w) (base := base) F25 B
  have q25 : FnB l.prog w K mg base 1 "_law_all_moves" ["_law_sizes_here", "_law_tap"] _ := ⟨_, _, o25_q, g a25, kp25, b25⟩
  have o26_q := ok_lmt (P := l.prog) (w := w) (base := base) F26 B.str
  have q26 : FnB l.prog w K mg base 1 "_law_move_text" ["_law_told"] _ := ⟨_, _, o26_q, g a26, kp26, b26⟩
  have o27_q := ok_lnum (P := l.prog) (w := w) (base := base) F27 B
  have q27 : FnB l.prog w K mg base 1 "_law_number" ["_law_text", "_law_most"] _ := ⟨_, _, o27_q, g a27, kp27, b27⟩
  have o28_q := ok_lhs F28 B B.min q27
  have q28 : FnB l.prog w K mg base 2 "_law_house_in" ["_law_text"] _ := ⟨_, _, o28_q, g a28, kp28, b28⟩
  have o29_q := ok_lwr F29 B B.min q27
  have q29 : FnB l.prog w K mg base 2 "_law_writes" ["_law_text"] _ := ⟨_, _, o29_q, g a29, kp29, b29⟩
  have o30_q := ok_refused (P := l.prog) (w := w) (base := base) (k := 7) F30 B (g0 z_any) E
  have q30 : FnB l.prog w K mg base 9 "_law_refused" ["_law_ask", "_law_text"] _ := ⟨_, _, o30_q, g a30, kp30, b30⟩
  have o31_q := ok_right (Z := Zz) (z := zz) F31 CHo q28 q29 q30 x18 x21 q2 q13 q15
  have q31 : FnB l.prog w K mg base 10 "_law_right" ["_law_text"] _ := ⟨_, _, o31_q, g a31, kp31, b31⟩
  have o32_q := ok_few (P := l.prog) (w := w) (mg := mg) (base := base) F32
  have q32 : FnB l.prog w K mg base 1 "_law_few" [] _ := ⟨_, _, o32_q, g a32, kp32, b32⟩
  exact ok_law7 (Z := Zz) (z := zz) F33 B (g0 z_all) CHo q22 q23 q24 q25 q26 q10 q12 q13 q15 x21 q32 q31 q30 n18 n21
theorem walk {l : PySem.W.OpenLaw} {q : Program} {loose : List Str} {XP : (Str → Option Value) → Heap → Prop} {YP : World → Heap → Prop} {d : DefRec} {K : Params → PySem.W.Frag} (hn : l.most = some 63) (hdf : d.params.defaults = [])
    (hY : ∀ (w : World) (h : Heap), YP w h → (K w.params).In h)
    (F : ∀ (w : World) (mg : Str → Option Value) (fa : Addr) (h : Heap), (K w.params).In h → h.Ns mainGlobals mg → mg d.name = some (.ref fa) →
      ∃ fd : FuncData, (∀ (s : Shared) (u : Value), BindsTo s fd ⟨[u], []⟩ [("_law_script", u)]) ∧ ∀ base : Heap, (K w.params).In base → base.Ns mainGlobals mg → FnOk l.prog w (K w.params) mg base CX0 11 fa fd ["_law_script"] (spLaw (K w.params))) :
    PySem.W.WalkO q loose XP YP l.row.toRowW d [] (fun f vs => PySem.call f vs) :=
  L2.walk_of (n := 63) (k := 11) (x := "_law_script") (CX := fun _ => CX0) (sp := fun w => spLaw (K w.params)) hn (by decide) hdf ⟨rfl, by decide, by decide⟩ hY F (fun _ _ a ns hl _ hS => ⟨a, ns, rfl, hS, fun _ => rfl⟩) fun _ _ _ _ _ z => z

end Jug
noncomputable section
namespace Hd
open PySem PySem.W PySem.Calls PyProof.Rows
set_option maxHeartbeats 0
abbrev pg : Program := PySem.Challenge.pw_jughouse_k07_written
def st (i : Nat) : Stmt := pg.main.body.getD i (.Pass ⟨0, 0, 0, 0⟩)
def me (i j : Nat) : Stmt := L2.inClass (st i) j
def de (P : Params) (k : Str) (t : Nat) (v : Value) : DictEntry := ⟨PyData.keyHash P k, .str k t, v⟩
def fu (s : Stmt) (n q : Str) (g : Addr) (cl : List (Str × Addr)) (a b c d : Value) (an : Option Addr) (e f : Value) (bu : Addr) : FuncData := ⟨n, q, L2.defArgs s, .stmts (L2.defBody s), L2.defScope s, g, cl, a, b, c, d, an, e, f, bu⟩
def cO (n : Str) (a : Nat) (m : Str) (b c : Nat) (L x y z u : Int) (v1 v2 v3 v4 v5 v6 v7 v8 : Value) (p l : Int) (q : Nat) : Obj := (.mk (.type "code") none (.fields #[(.str n a), (.str m b), (.str "/claim/cut.py" c), (.int L 0), (.int x 0), (.int y 0), (.int z 0), (.int u 0), v1, v2, v3, v4, v5, v6, v7, v8, (.int p 0), (.int l 0), (.str "/claim/cut.py" q)]) #[])
def c1 (n m : Str) (a : Nat) (L x u : Int) (a1 a2 a3 a4 a5 p : Nat) : Obj := cO n a m (a + 1) (a + 2) L x 0 0 u (.ref a1) (.bool true) (.int 181 0) (.ref a2) .none (.ref a3) (.ref a4) (.ref a5) (Int.ofNat p) L (p + 1)
def c2 (n : Str) (a : Nat) (L : Int) (a1 a2 p : Nat) : Obj := cO n a n (a + 1) (a + 2) L 0 0 0 0 (.ref a1) (.bool false) (.int 181 0) (.ref a2) .none .none .none .none (Int.ofNat p) L (p + 1)
def fo (s : Stmt) (n q m : Str) (t k : Nat) : Obj := .mk (.type "function") none (.func (fu s n q 3 [] .none .none .none (.str m t) none (.ref k) .none 0)) #[]
def f1 (s : Stmt) (n m : Str) (t k : Nat) : Obj := fo s n n m t k
def fp (s : Stmt) (n q : Str) : Obj := .mk .none none (.func (fu s n q 0 [] .none .none .none .none none .none .none 0)) #[]
def f2 (s : Stmt) (n : Str) : Obj := fp s n n
def tu (a : Array Value) : Obj := .mk (.type "tuple") none (.seq a 0) #[]
def tL : List (Str × Nat) → List Value
  | [] => []
  | (s, n) :: l => .str s n :: tL l
def tS (a : List (Str × Nat)) : Obj := tu ⟨tL a⟩
def di (a : Array DictEntry) (n : Nat) : Obj := .mk (.type "dict") none (.dict a n) #[]
def fr (a b c : Value) : Obj := .mk (.type "frame") none .plain #[some a, some (.ref 3), some b, none, some c, none, some (.ref 0)]
def ft (s : String) (a : Array Value) : Obj := .mk (.type s) none (.fields a) #[]
def fl (a : Array Value) : Obj := .mk .none none (.fields a) #[]
def ty (n : Str) (b m : List Value) (d : Nat) (q : Str) (k : List Value) (v x y z : Value) : Obj := .mk (.type "type") none (.cls (.mk n b m d q true [] k false none false)) #[some v, none, some x, some y, some z, some (.bool true)]
def r (n : Nat) : Value := .ref n
def i (n : Int) : Value := .int n 0
def z (s : Str) (n : Nat) : Value := .str s n
variable (P : Params)
def e (k : Str) (t n : Nat) : DictEntry := de P k t (.ref n)
def eM (t : Nat) (s : Str) (u : Nat) : DictEntry := de P "__module__" t (.str s u)
def eQ (t : Nat) (s : Str) (u : Nat) : DictEntry := de P "__qualname__" t (.str s u)
def eL (t : Nat) (s : Int) (u : Nat) : DictEntry := de P "__firstlineno__" t (.int s u)
def eS (t n : Nat) : DictEntry := de P "__static_attributes__" t (.ref n)
def b0 : Obj := boot_o_0 P
def b1 : Obj := boot_o_1 P
def b2 : Obj := boot_o_2 P
def b3 : Obj := boot_o_3 P
def b4 : Obj := boot_o_4 P
def b5 : Obj := boot_o_5 P
def b6 : Obj := boot_o_6 P
def b7 : Obj := boot_o_7 P
def b8 : Obj := boot_o_8 P
def b9 : Obj := boot_o_9 P
def b10 : Obj := boot_o_10 P
def o11 : Obj := c2 "<module>" 182 1 11 12 185
def o12 : Obj := fr (r 13) (r 3) (z "__main__" 164)
def o13 : Obj := di #[(de P "__name__" 165 (z "law_jughouse_k07_written" 631)), de P "__doc__" 166 .none, de P "__package__" 167 .none, (de P "__loader__" 168 (.builtin "__main__.__loader__#opaque")), de P "__spec__" 169 .none, e P "__annotations__" 170 6, e P "__builtins__" 171 4, (de P "__file__" 173 (z "/claim/cut.py" 172)), de P "__cached__" 174 .none, e P "_wall" 193 21, e P "JugError" 213 31, e P "BadHouse" 229 44, e P "BadState" 245 56, e P "BadMove" 261 68, e P "BadGoal" 277 80, e P "BadText" 293 92, (de P "MOST_JUGS" 297 (.int 4 296)), (de P "MOST_SIZE" 299 (.int 60 298)), e P "is_number" 308 101, e P "is_jug" 315 108, e P "check_jug" 324 115, e P "Move" 362 139, e P "Pour" 398 167, e P "Fill" 432 193, e P "Empty" 466 219, e P "moves_in" 475 228, (de P "MOST_STATES" 479 (.int 2000 478)), e P "sizes_in" 488 235, e P "count_states" 497 242, e P "pours_among" 507 249, e P "House" 564 290, (de P "FIGURES" 568 (z "0123456789" 567)), (de P "MOST_FIGURES" 570 (.int 2 569)), e P "house_text" 576 299, e P "move_text" 583 306, e P "routine_text" 589 311, e P "check_text" 596 318, e P "number_of" 604 325, e P "house_of" 610 330, e P "move_in_words" 618 337, e P "move_of" 624 342, e P "routine_of" 630 347, e P "_law_cell_at" 640 354, e P "_law_draw" 650 361, e P "_law_sizes" 656 366, e P "_law_state" 667 373, e P "_law_all_moves" 673 378, e P "_law_move_text" 683 385, e P "_law_number" 691 392, e P "_law_house_in" 697 397, e P "_law_writes" 703 402, e P "_law_refused" 713 409, e P "_law_right" 722 416, e P "_law_few" 729 423, e P "law" 735 428] 55
def o14 : Obj := fl #[i 1, i 0, r 20, i 5, i 0, r 27, i 7, i 0, r 40, i 9, i 0, r 52, i 11, i 0, r 64, i 13, i 0, r 76, i 15, i 0, r 88, i 20, i 0, r 100, i 22, i 0, r 107, i 25, i 0, r 114, i 28, i 0, r 121, i 35, i 0, r 149, i 47, i 0, r 175, i 55, i 0, r 201, i 63, i 0, r 227, i 73, i 0, r 234, i 85, i 0, r 241, i 90, i 0, r 248, i 97, i 0, r 255, i 124, i 0, r 298, i 129, i 0, r 305, i 135, i 0, r 310, i 137, i 0, r 317, i 140, i 0, r 324, i 149, i 0, r 329, i 162, i 0, r 336, i 170, i 0, r 341, i 177, i 0, r 346, i 183, i 0, r 353, i 187, i 0, r 360, i 190, i 0, r 365, i 194, i 0, r 372, i 200, i 0, r 377, i 208, i 0, r 384, i 213, i 0, r 391, i 217, i 0, r 396, i 229, i 0, r 401, i 241, i 0, r 408, i 249, i 0, r 415, i 261, i 0, r 422, i 270, i 0, r 427]
def o15 : Obj := tS [("k", 190)]
def o16 : Obj := f2 (st 0) "_wall"
def o17 : Obj := c1 "_wall" "_wall" 187 1 1 3 15 16 17 18 19 191
def o18 : Obj := f1 (st 0) "_wall" "__main__" 164 20
def o19 : Obj := tu #[(.type "ValueError")]
def o20 : Obj := ft "builtin_function_or_method" #[(.builtin "type.__prepare__"), (.type "type")]
def o21 : Obj := di #[eM P 203 "jughouse.errors" 194, eQ P 205 "JugError" 204, eL P 207 5 206, eS P 208 29] 4
def o22 : Obj := c2 "JugError" 198 5 25 26 201
def o23 : Obj := fr (r 27) (r 24) (z "jughouse.errors" 194)
def o24 : Obj := di #[eM P 203 "jughouse.errors" 194, eL P 207 5 206, eS P 208 29, e P "__weakref__" 210 32, de P "__doc__" 211 .none] 3
def o25 : Obj := ty "JugError" [(.type "ValueError")] [r 31, (.type "ValueError"), (.type "Exception"), (.type "BaseException"), (.type "object")] 30 "JugError" [r 44, r 56, r 68, r 80, r 92] (r 22) (z "JugError" 196) (z "JugError" 204) (.builtin "ValueError.__new__")
def o26 : Obj := ft "getset_descriptor" #[z "__weakref__" 209, r 31, (.builtin "ExceptionGroup.__weakref__"), .none]
def o27 : Obj := ft "super" #[r 31, r 31, r 31]
def o28 : Obj := ft "builtin_function_or_method" #[(.builtin "object.__init_subclass__"), r 31]
def o29 : Obj := tu #[r 31]
def o30 : Obj := di #[eM P 221 "jughouse.errors" 194, eQ P 223 "BadHouse" 222, eL P 225 7 224, eS P 226 42] 4
def o31 : Obj := c2 "BadHouse" 216 7 38 39 219
def o32 : Obj := fr (r 40) (r 37) (z "jughouse.errors" 194)
def o33 : Obj := di #[eM P 221 "jughouse.errors" 194, eL P 225 7 224, eS P 226 42, de P "__doc__" 227 .none] 2
def o34 : Obj := ty "BadHouse" [r 31] [r 44, r 31, (.type "ValueError"), (.type "Exception"), (.type "BaseException"), (.type "object")] 43 "BadHouse" [] (r 35) (z "BadHouse" 214) (z "BadHouse" 222) (.builtin "ValueError.__new__")
def o35 : Obj := ft "super" #[r 44, r 44, r 44]
def o36 : Obj := ft "builtin_function_or_method" #[(.builtin "object.__init_subclass__"), r 44]
def o37 : Obj := di #[eM P 237 "jughouse.errors" 194, eQ P 239 "BadState" 238, eL P 241 9 240, eS P 242 54] 4
def o38 : Obj := c2 "BadState" 232 9 50 51 235
def o39 : Obj := fr (r 52) (r 49) (z "jughouse.errors" 194)
def o40 : Obj := di #[eM P 237 "jughouse.errors" 194, eL P 241 9 240, eS P 242 54, de P "__doc__" 243 .none] 2
def o41 : Obj := ty "BadState" [r 31] [r 56, r 31, (.type "ValueError"), (.type "Exception"), (.type "BaseException"), (.type "object")] 55 "BadState" [] (r 47) (z "BadState" 230) (z "BadState" 238) (.builtin "ValueError.__new__")
def o42 : Obj := ft "super" #[r 56, r 56, r 56]
def o43 : Obj := ft "builtin_function_or_method" #[(.builtin "object.__init_subclass__"), r 56]
def o44 : Obj := di #[eM P 253 "jughouse.errors" 194, eQ P 255 "BadMove" 254, eL P 257 11 256, eS P 258 66] 4
def o45 : Obj := c2 "BadMove" 248 11 62 63 251
def o46 : Obj := fr (r 64) (r 61) (z "jughouse.errors" 194)
def o47 : Obj := di #[eM P 253 "jughouse.errors" 194, eL P 257 11 256, eS P 258 66, de P "__doc__" 259 .none] 2
def o48 : Obj := ty "BadMove" [r 31] [r 68, r 31, (.type "ValueError"), (.type "Exception"), (.type "BaseException"), (.type "object")] 67 "BadMove" [] (r 59) (z "BadMove" 246) (z "BadMove" 254) (.builtin "ValueError.__new__")
def o49 : Obj := ft "super" #[r 68, r 68, r 68]
def o50 : Obj := ft "builtin_function_or_method" #[(.builtin "object.__init_subclass__"), r 68]
def o51 : Obj := di #[eM P 269 "jughouse.errors" 194, eQ P 271 "BadGoal" 270, eL P 273 13 272, eS P 274 78] 4
def o52 : Obj := c2 "BadGoal" 264 13 74 75 267
def o53 : Obj := fr (r 76) (r 73) (z "jughouse.errors" 194)
def o54 : Obj := di #[eM P 269 "jughouse.errors" 194, eL P 273 13 272, eS P 274 78, de P "__doc__" 275 .none] 2
def o55 : Obj := ty "BadGoal" [r 31] [r 80, r 31, (.type "ValueError"), (.type "Exception"), (.type "BaseException"), (.type "object")] 79 "BadGoal" [] (r 71) (z "BadGoal" 262) (z "BadGoal" 270) (.builtin "ValueError.__new__")
def o56 : Obj := ft "super" #[r 80, r 80, r 80]
def o57 : Obj := ft "builtin_function_or_method" #[(.builtin "object.__init_subclass__"), r 80]
def o58 : Obj := di #[eM P 285 "jughouse.errors" 194, eQ P 287 "BadText" 286, eL P 289 15 288, eS P 290 90] 4
def o59 : Obj := c2 "BadText" 280 15 86 87 283
def o60 : Obj := fr (r 88) (r 85) (z "jughouse.errors" 194)
def o61 : Obj := di #[eM P 285 "jughouse.errors" 194, eL P 289 15 288, eS P 290 90, de P "__doc__" 291 .none] 2
def o62 : Obj := ty "BadText" [r 31] [r 92, r 31, (.type "ValueError"), (.type "Exception"), (.type "BaseException"), (.type "object")] 91 "BadText" [] (r 83) (z "BadText" 278) (z "BadText" 286) (.builtin "ValueError.__new__")
def o63 : Obj := ft "super" #[r 92, r 92, r 92]
def o64 : Obj := ft "builtin_function_or_method" #[(.builtin "object.__init_subclass__"), r 92]
def o65 : Obj := tS [("value", 303), ("least", 304), ("most", 305)]
def o66 : Obj := f2 (st 11) "is_number"
def o67 : Obj := c1 "is_number" "is_number" 300 20 3 3 95 96 97 98 99 306
def o68 : Obj := f1 (st 11) "is_number" "jughouse.checks" 294 100
def o69 : Obj := tS [("value", 312)]
def o70 : Obj := f2 (st 12) "is_jug"
def o71 : Obj := c1 "is_jug" "is_jug" 309 22 1 3 102 103 104 105 106 313
def o72 : Obj := f1 (st 12) "is_jug" "jughouse.checks" 294 107
def o73 : Obj := tS [("jug", 321)]
def o74 : Obj := f2 (st 14) "check_jug"
def o75 : Obj := c1 "check_jug" "check_jug" 318 25 1 3 109 110 111 112 113 322
def o76 : Obj := f1 (st 14) "check_jug" "jughouse.moves" 316 114
def o77 : Obj := di #[eM P 332 "jughouse.moves" 316, eQ P 334 "Move" 333, eL P 336 28 335, e P "done" 345 129, e P "held_behind" 354 136, eS P 355 137] 6
def o78 : Obj := fl #[i 30, i 4, r 128, i 33, i 4, r 135]
def o79 : Obj := c2 "Move" 327 28 119 120 330
def o80 : Obj := fr (r 121) (r 118) (z "jughouse.moves" 316)
def o81 : Obj := tS [("self", 340), ("house", 341), ("state", 342)]
def o82 : Obj := fp (me 15 0) "done" "Move.done"
def o83 : Obj := c1 "done" "Move.done" 337 30 3 3 123 124 125 126 127 343
def o84 : Obj := fo (me 15 0) "done" "Move.done" "jughouse.moves" 316 128
def o85 : Obj := tS [("self", 349), ("house", 350), ("held", 351)]
def o86 : Obj := fp (me 15 1) "held_behind" "Move.held_behind"
def o87 : Obj := c1 "held_behind" "Move.held_behind" 346 33 3 3 130 131 132 133 134 352
def o88 : Obj := fo (me 15 1) "held_behind" "Move.held_behind" "jughouse.moves" 316 135
def o89 : Obj := di #[eM P 332 "jughouse.moves" 316, eL P 336 28 335, e P "done" 345 129, e P "held_behind" 354 136, eS P 355 137, e P "__dict__" 357 140, e P "__weakref__" 359 141, de P "__doc__" 360 .none] 4
def o90 : Obj := .mk (.type "type") none (.cls (.mk "Move" [(.type "object")] [r 139, (.type "object")] 138 "Move" true [] [r 167, r 193, r 219] false none false)) #[none, none, (some (z "Move" 325)), (some (z "Move" 333)), (some (.builtin "object.__new__")), (some (.bool true))]
def o91 : Obj := ft "getset_descriptor" #[z "__dict__" 356, r 139, (.builtin "function.__dict__"), (.builtin "function.__dict__#set")]
def o92 : Obj := ft "getset_descriptor" #[z "__weakref__" 358, r 139, (.builtin "ExceptionGroup.__weakref__"), .none]
def o93 : Obj := ft "super" #[r 139, r 139, r 139]
def o94 : Obj := ft "builtin_function_or_method" #[(.builtin "object.__init_subclass__"), r 139]
def o95 : Obj := tu #[r 139]
def o96 : Obj := di #[eM P 370 "jughouse.moves" 316, eQ P 372 "Pour" 371, eL P 374 35 373, e P "__init__" 383 157, e P "held_behind" 392 164, eS P 395 165] 6
def o97 : Obj := fl #[i 37, i 4, r 156, i 45, i 4, r 163]
def o98 : Obj := c2 "Pour" 365 35 147 148 368
def o99 : Obj := fr (r 149) (r 146) (z "jughouse.moves" 316)
def o100 : Obj := tS [("self", 378), ("one", 379), ("other", 380)]
def o101 : Obj := fp (me 16 0) "__init__" "Pour.__init__"
def o102 : Obj := c1 "__init__" "Pour.__init__" 375 37 3 3 151 152 153 154 155 381
def o103 : Obj := fo (me 16 0) "__init__" "Pour.__init__" "jughouse.moves" 316 156
def o104 : Obj := tS [("self", 387), ("house", 388), ("held", 389)]
def o105 : Obj := fp (me 16 1) "held_behind" "Pour.held_behind"
def o106 : Obj := c1 "held_behind" "Pour.held_behind" 384 45 3 3 158 159 160 161 162 390
def o107 : Obj := fo (me 16 1) "held_behind" "Pour.held_behind" "jughouse.moves" 316 163
def o108 : Obj := tS [("one", 393), ("other", 394)]
def o109 : Obj := di #[eM P 370 "jughouse.moves" 316, eL P 374 35 373, e P "__init__" 383 157, e P "held_behind" 392 164, eS P 395 165, de P "__doc__" 396 .none] 2
def o110 : Obj := ty "Pour" [r 139] [r 167, r 139, (.type "object")] 166 "Pour" [] (r 144) (z "Pour" 363) (z "Pour" 371) (.builtin "object.__new__")
def o111 : Obj := ft "super" #[r 167, r 167, r 167]
def o112 : Obj := ft "builtin_function_or_method" #[(.builtin "object.__init_subclass__"), r 167]
def o113 : Obj := di #[eM P 406 "jughouse.moves" 316, eQ P 408 "Fill" 407, eL P 410 47 409, e P "__init__" 418 183, e P "held_behind" 427 190, eS P 429 191] 6
def o114 : Obj := fl #[i 49, i 4, r 182, i 53, i 4, r 189]
def o115 : Obj := c2 "Fill" 401 47 173 174 404
def o116 : Obj := fr (r 175) (r 172) (z "jughouse.moves" 316)
def o117 : Obj := tS [("self", 414), ("jug", 415)]
def o118 : Obj := fp (me 17 0) "__init__" "Fill.__init__"
def o119 : Obj := c1 "__init__" "Fill.__init__" 411 49 2 3 177 178 179 180 181 416
def o120 : Obj := fo (me 17 0) "__init__" "Fill.__init__" "jughouse.moves" 316 182
def o121 : Obj := tS [("self", 422), ("house", 423), ("held", 424)]
def o122 : Obj := fp (me 17 1) "held_behind" "Fill.held_behind"
def o123 : Obj := c1 "held_behind" "Fill.held_behind" 419 53 3 3 184 185 186 187 188 425
def o124 : Obj := fo (me 17 1) "held_behind" "Fill.held_behind" "jughouse.moves" 316 189
def o125 : Obj := tS [("jug", 428)]
def o126 : Obj := di #[eM P 406 "jughouse.moves" 316, eL P 410 47 409, e P "__init__" 418 183, e P "held_behind" 427 190, eS P 429 191, de P "__doc__" 430 .none] 2
def o127 : Obj := ty "Fill" [r 139] [r 193, r 139, (.type "object")] 192 "Fill" [] (r 170) (z "Fill" 399) (z "Fill" 407) (.builtin "object.__new__")
def o128 : Obj := ft "super" #[r 193, r 193, r 193]
def o129 : Obj := ft "builtin_function_or_method" #[(.builtin "object.__init_subclass__"), r 193]
def o130 : Obj := di #[eM P 440 "jughouse.moves" 316, eQ P 442 "Empty" 441, eL P 444 55 443, e P "__init__" 452 209, e P "held_behind" 461 216, eS P 463 217] 6
def o131 : Obj := fl #[i 57, i 4, r 208, i 61, i 4, r 215]
def o132 : Obj := c2 "Empty" 435 55 199 200 438
def o133 : Obj := fr (r 201) (r 198) (z "jughouse.moves" 316)
def o134 : Obj := tS [("self", 448), ("jug", 449)]
def o135 : Obj := fp (me 18 0) "__init__" "Empty.__init__"
def o136 : Obj := c1 "__init__" "Empty.__init__" 445 57 2 3 203 204 205 206 207 450
def o137 : Obj := fo (me 18 0) "__init__" "Empty.__init__" "jughouse.moves" 316 208
def o138 : Obj := tS [("self", 456), ("house", 457), ("held", 458)]
def o139 : Obj := fp (me 18 1) "held_behind" "Empty.held_behind"
def o140 : Obj := c1 "held_behind" "Empty.held_behind" 453 61 3 3 210 211 212 213 214 459
def o141 : Obj := fo (me 18 1) "held_behind" "Empty.held_behind" "jughouse.moves" 316 215
def o142 : Obj := tS [("jug", 462)]
def o143 : Obj := di #[eM P 440 "jughouse.moves" 316, eL P 444 55 443, e P "__init__" 452 209, e P "held_behind" 461 216, eS P 463 217, de P "__doc__" 464 .none] 2
def o144 : Obj := ty "Empty" [r 139] [r 219, r 139, (.type "object")] 218 "Empty" [] (r 196) (z "Empty" 433) (z "Empty" 441) (.builtin "object.__new__")
def o145 : Obj := ft "super" #[r 219, r 219, r 219]
def o146 : Obj := ft "builtin_function_or_method" #[(.builtin "object.__init_subclass__"), r 219]
def o147 : Obj := tS [("moves", 470), ("told", 471), ("move", 472)]
def o148 : Obj := f2 (st 19) "moves_in"
def o149 : Obj := c1 "moves_in" "moves_in" 467 63 1 3 222 223 224 225 226 473
def o150 : Obj := f1 (st 19) "moves_in" "jughouse.moves" 316 227
def o151 : Obj := tS [("sizes", 483), ("told", 484), ("size", 485)]
def o152 : Obj := f2 (st 22) "sizes_in"
def o153 : Obj := c1 "sizes_in" "sizes_in" 480 73 1 3 229 230 231 232 233 486
def o154 : Obj := f1 (st 22) "sizes_in" "jughouse.houses" 476 234
def o155 : Obj := tS [("sizes", 492), ("many", 493), ("size", 494)]
def o156 : Obj := f2 (st 23) "count_states"
def o157 : Obj := c1 "count_states" "count_states" 489 85 1 3 236 237 238 239 240 495
def o158 : Obj := f1 (st 23) "count_states" "jughouse.houses" 476 241
def o159 : Obj := tS [("many", 501), ("pours", 502), ("one", 503), ("other", 504)]
def o160 : Obj := f2 (st 24) "pours_among"
def o161 : Obj := c1 "pours_among" "pours_among" 498 90 1 3 243 244 245 246 247 505
def o162 : Obj := f1 (st 24) "pours_among" "jughouse.houses" 476 248
def o163 : Obj := di #[eM P 515 "jughouse.houses" 476, eQ P 517 "House" 516, eL P 519 97 518, e P "__init__" 528 263, e P "sizes" 535 270, e P "moves" 541 275, e P "states" 548 282, e P "empty" 554 287, eS P 557 288] 9
def o164 : Obj := fl #[i 99, i 4, r 262, i 105, i 4, r 269, i 108, i 4, r 274, i 116, i 4, r 281, i 119, i 4, r 286]
def o165 : Obj := c2 "House" 510 97 253 254 513
def o166 : Obj := fr (r 255) (r 252) (z "jughouse.houses" 476)
def o167 : Obj := tS [("self", 523), ("sizes", 524), ("tap", 525)]
def o168 : Obj := fp (me 25 0) "__init__" "House.__init__"
def o169 : Obj := c1 "__init__" "House.__init__" 520 99 3 3 257 258 259 260 261 526
def o170 : Obj := fo (me 25 0) "__init__" "House.__init__" "jughouse.houses" 476 262
def o171 : Obj := tS [("self", 532)]
def o172 : Obj := fp (me 25 1) "sizes" "House.sizes"
def o173 : Obj := c1 "sizes" "House.sizes" 529 105 1 3 264 265 266 267 268 533
def o174 : Obj := fo (me 25 1) "sizes" "House.sizes" "jughouse.houses" 476 269
def o175 : Obj := fp (me 25 2) "moves" "House.moves"
def o176 : Obj := cO "moves" 536 "House.moves" 537 538 108 1 0 0 3 (r 271) (.bool true) (i 181) (r 272) .none .none .none (r 273) 539 108 540
def o177 : Obj := fo (me 25 2) "moves" "House.moves" "jughouse.houses" 476 274
def o178 : Obj := tS [("self", 545)]
def o179 : Obj := fp (me 25 3) "states" "House.states"
def o180 : Obj := c1 "states" "House.states" 542 116 1 3 276 277 278 279 280 546
def o181 : Obj := fo (me 25 3) "states" "House.states" "jughouse.houses" 476 281
def o182 : Obj := fp (me 25 4) "empty" "House.empty"
def o183 : Obj := cO "empty" 549 "House.empty" 550 551 119 1 0 0 3 (r 283) (.bool true) (i 181) (r 284) .none .none .none (r 285) 552 119 553
def o184 : Obj := fo (me 25 4) "empty" "House.empty" "jughouse.houses" 476 286
def o185 : Obj := tS [("jug_sizes", 555), ("tap", 556)]
def o186 : Obj := di #[eM P 515 "jughouse.houses" 476, eL P 519 97 518, e P "__init__" 528 263, e P "sizes" 535 270, e P "moves" 541 275, e P "states" 548 282, e P "empty" 554 287, eS P 557 288, e P "__dict__" 559 291, e P "__weakref__" 561 292, de P "__doc__" 562 .none] 4
def o187 : Obj := .mk (.type "type") none (.cls (.mk "House" [(.type "object")] [r 290, (.type "object")] 289 "House" true [] [] false none false)) #[none, none, (some (z "House" 508)), (some (z "House" 516)), (some (.builtin "object.__new__")), (some (.bool true))]
def o188 : Obj := ft "getset_descriptor" #[z "__dict__" 558, r 290, (.builtin "function.__dict__"), (.builtin "function.__dict__#set")]
def o189 : Obj := ft "getset_descriptor" #[z "__weakref__" 560, r 290, (.builtin "ExceptionGroup.__weakref__"), .none]
def o190 : Obj := ft "super" #[r 290, r 290, r 290]
def o191 : Obj := ft "builtin_function_or_method" #[(.builtin "object.__init_subclass__"), r 290]
def o192 : Obj := f2 (st 29) "house_text"
def o193 : Obj := cO "house_text" 571 "house_text" 572 573 124 1 0 0 3 (r 295) (.bool true) (i 181) (r 296) .none .none .none (r 297) 574 124 575
def o194 : Obj := f1 (st 29) "house_text" "jughouse.texts" 565 298
def o195 : Obj := tS [("move", 580)]
def o196 : Obj := f2 (st 30) "move_text"
def o197 : Obj := c1 "move_text" "move_text" 577 129 1 3 300 301 302 303 304 581
def o198 : Obj := f1 (st 30) "move_text" "jughouse.texts" 565 305
def o199 : Obj := f2 (st 31) "routine_text"
def o200 : Obj := cO "routine_text" 584 "routine_text" 585 586 135 1 0 0 3 (r 307) (.bool true) (i 181) (r 308) .none .none .none (r 309) 587 135 588
def o201 : Obj := f1 (st 31) "routine_text" "jughouse.texts" 565 310
def o202 : Obj := tS [("text", 593)]
def o203 : Obj := f2 (st 32) "check_text"
def o204 : Obj := c1 "check_text" "check_text" 590 137 1 3 312 313 314 315 316 594
def o205 : Obj := f1 (st 32) "check_text" "jughouse.texts" 565 317
def o206 : Obj := tS [("word", 600), ("sign", 601)]
def o207 : Obj := f2 (st 33) "number_of"
def o208 : Obj := c1 "number_of" "number_of" 597 140 1 3 319 320 321 322 323 602
def o209 : Obj := f1 (st 33) "number_of" "jughouse.texts" 565 324
def o210 : Obj := f2 (st 34) "house_of"
def o211 : Obj := cO "house_of" 605 "house_of" 606 607 149 1 0 0 3 (r 326) (.bool true) (i 181) (r 327) .none .none .none (r 328) 608 149 609
def o212 : Obj := f1 (st 34) "house_of" "jughouse.texts" 565 329
def o213 : Obj := tS [("sort", 614), ("jugs", 615)]
def o214 : Obj := f2 (st 35) "move_in_words"
def o215 : Obj := c1 "move_in_words" "move_in_words" 611 162 2 3 331 332 333 334 335 616
def o216 : Obj := f1 (st 35) "move_in_words" "jughouse.texts" 565 336
def o217 : Obj := f2 (st 36) "move_of"
def o218 : Obj := cO "move_of" 619 "move_of" 620 621 170 1 0 0 3 (r 338) (.bool true) (i 181) (r 339) .none .none .none (r 340) 622 170 623
def o219 : Obj := f1 (st 36) "move_of" "jughouse.texts" 565 341
def o220 : Obj := f2 (st 37) "routine_of"
def o221 : Obj := cO "routine_of" 625 "routine_of" 626 627 177 1 0 0 3 (r 343) (.bool true) (i 181) (r 344) .none .none .none (r 345) 628 177 629
def o222 : Obj := f1 (st 37) "routine_of" "jughouse.texts" 565 346
def o223 : Obj := tS [("_law_script", 636), ("_law_k", 637)]
def o224 : Obj := f2 (st 39) "_law_cell_at"
def o225 : Obj := c1 "_law_cell_at" "_law_cell_at" 633 183 2 3 348 349 350 351 352 638
def o226 : Obj := f1 (st 39) "_law_cell_at" "law_jughouse_k07_written" 631 353
def o227 : Obj := tS [("_law_cell", 644), ("_law_k", 645), ("_law_many", 646), ("_law_primes", 647)]
def o228 : Obj := f2 (st 40) "_law_draw"
def o229 : Obj := c1 "_law_draw" "_law_draw" 641 187 3 3 355 356 357 358 359 648
def o230 : Obj := f1 (st 40) "_law_draw" "law_jughouse_k07_written" 631 360
def o231 : Obj := f2 (st 41) "_law_sizes"
def o232 : Obj := cO "_law_sizes" 651 "_law_sizes" 652 653 190 1 0 0 3 (r 362) (.bool true) (i 181) (r 363) .none .none .none (r 364) 654 190 655
def o233 : Obj := f1 (st 41) "_law_sizes" "law_jughouse_k07_written" 631 365
def o234 : Obj := tS [("_law_cell", 660), ("_law_sizes_here", 661), ("_law_state_here", 662), ("_law_k", 663), ("_law_kind", 664)]
def o235 : Obj := f2 (st 42) "_law_state"
def o236 : Obj := c1 "_law_state" "_law_state" 657 194 2 3 367 368 369 370 371 665
def o237 : Obj := f1 (st 42) "_law_state" "law_jughouse_k07_written" 631 372
def o238 : Obj := f2 (st 43) "_law_all_moves"
def o239 : Obj := cO "_law_all_moves" 668 "_law_all_moves" 669 670 200 2 0 0 3 (r 374) (.bool true) (i 181) (r 375) .none .none .none (r 376) 671 200 672
def o240 : Obj := f1 (st 43) "_law_all_moves" "law_jughouse_k07_written" 631 377
def o241 : Obj := tS [("_law_told", 677), ("_law_sort", 678), ("_law_one", 679), ("_law_other", 680)]
def o242 : Obj := f2 (st 44) "_law_move_text"
def o243 : Obj := c1 "_law_move_text" "_law_move_text" 674 208 1 3 379 380 381 382 383 681
def o244 : Obj := f1 (st 44) "_law_move_text" "law_jughouse_k07_written" 631 384
def o245 : Obj := tS [("_law_text", 687), ("_law_most", 688)]
def o246 : Obj := f2 (st 45) "_law_number"
def o247 : Obj := c1 "_law_number" "_law_number" 684 213 2 3 386 387 388 389 390 689
def o248 : Obj := f1 (st 45) "_law_number" "law_jughouse_k07_written" 631 391
def o249 : Obj := f2 (st 46) "_law_house_in"
def o250 : Obj := cO "_law_house_in" 692 "_law_house_in" 693 694 217 1 0 0 3 (r 393) (.bool true) (i 181) (r 394) .none .none .none (r 395) 695 217 696
def o251 : Obj := f1 (st 46) "_law_house_in" "law_jughouse_k07_written" 631 396
def o252 : Obj := f2 (st 47) "_law_writes"
def o253 : Obj := cO "_law_writes" 698 "_law_writes" 699 700 229 1 0 0 3 (r 398) (.bool true) (i 181) (r 399) .none .none .none (r 400) 701 229 702
def o254 : Obj := f1 (st 47) "_law_writes" "law_jughouse_k07_written" 631 401
def o255 : Obj := tS [("_law_ask", 707), ("_law_text", 708), ("error", 709), ("_law_others", 710)]
def o256 : Obj := f2 (st 48) "_law_refused"
def o257 : Obj := c1 "_law_refused" "_law_refused" 704 241 2 3 403 404 405 406 407 711
def o258 : Obj := f1 (st 48) "_law_refused" "law_jughouse_k07_written" 631 408
def o259 : Obj := tS [("_law_text", 717), ("_law_due", 718), ("_law_house", 719)]
def o260 : Obj := f2 (st 49) "_law_right"
def o261 : Obj := c1 "_law_right" "_law_right" 714 249 1 3 410 411 412 413 414 720
def o262 : Obj := f1 (st 49) "_law_right" "law_jughouse_k07_written" 631 415
def o263 : Obj := tS [("_law_some", 726)]
def o264 : Obj := f2 (st 50) "_law_few"
def o265 : Obj := c1 "_law_few" "_law_few" 723 261 0 3 417 418 419 420 421 727
def o266 : Obj := f1 (st 50) "_law_few" "law_jughouse_k07_written" 631 422
def o267 : Obj := f2 (st 51) "law"
def o268 : Obj := cO "law" 730 "law" 731 732 270 1 0 0 3 (r 424) (.bool true) (i 181) (r 425) .none .none .none (r 426) 733 270 734
def o269 : Obj := f1 (st 51) "law" "law_jughouse_k07_written" 631 427
abbrev N := BT.node
abbrev L := BT.nil
abbrev l (o : Obj) : BT := .node o .nil .nil
abbrev k (o : Obj) (t : BT) : BT := .node o t .nil
def lifeF : Life := (.mk [] [] [] 0 [] [] false #[] [] 0 false false false 0 [2000, 10, 10] false 0 true [] [] 0 false)
def drawnF : Drawn := (.mk 0 0 0 0)
def hA (P : Params) : Heap := ⟨Array.mk (b0 P :: b1 P :: b2 P :: b3 P :: b4 P :: b5 P :: b6 P :: b7 P :: b8 P :: b9 P :: b10 P :: b7 P :: b8 P :: o11 :: o12 :: []), lifeF⟩
def sA (w : World) (os : OsState) : Shared := ⟨hA w.params, Array.mk [], drawnF, 187, os⟩
def tB (P : Params) : BT := (N (b0 P) (N (b1 P) (N (b3 P) (l (b7 P)) (l (b7 P))) (N (b5 P) (l (b9 P)) (l o11))) (N (b2 P) (N (b4 P) (l (b8 P)) (l (b8 P))) (N (b6 P) (l (b10 P)) (l o12))))
def sB (w : World) (os : OsState) : SharedT := ⟨tB w.params, 15, lifeF, Array.mk [], drawnF, 187, os⟩
def tC0 (P : Params) : BT := (N (b0 P) (N (b1 P) (N (o13 P) (N (b7 P) (N (b7 P) (N o25 (N (b8 P) (N o82 (l o165) (l o242)) (k o125 (l (b7 P)))) (N (b7 P) (N (b8 P) (l o184) (l o261)) (k (b8 P) (l (b7 P))))) (N o29 (N (o54 P) (N o94 (l (b7 P)) (l (b8 P))) (k o135 (l o214))) (N o73 (k o115 (l (b7 P))) (k (b7 P) (l (b7 P)))))) (N o20 (N (b8 P) (N o29 (N o87 (l o170) (l o247)) (k (b7 P) (l (b8 P)))) (N (b8 P) (N o110 (l (b7 P)) (l o266)) (k o151 (l o228)))) (N (o40 P) (N (b8 P) (N (b7 P) (l (b7 P)) (l o256)) (k o140 (l (b7 P)))) (N (b7 P) (k o120 (l o201)) (k o160 (l (b8 P))))))) (N (b7 P) (N o16 (N o29 (N (o47 P) (N (b8 P) (l o167) (l (b8 P))) (k o129 (l o207))) (N o66 (N o106 (l o188) (l o263)) (k o149 (l (b7 P))))) (N (b8 P) (N o29 (N (b7 P) (l o177) (l (b7 P))) (k (b8 P) (l (b8 P)))) (N o76 (k o117 (l (b7 P))) (k (b7 P) (l o235))))) (N o22 (N (o33 P) (N (b8 P) (N o90 (l (b7 P)) (l o249)) (k (b7 P) (l (b7 P)))) (N o71 (N o20 (l o194) (l o268)) (k o154 (l (b8 P))))) (N o29 (N (o61 P) (N o101 (l (b7 P)) (l (b8 P))) (k o144 (l o222))) (N (b7 P) (k (b7 P) (l (b7 P))) (k o20 (l (b7 P)))))))) (N (b5 P) (N (b9 P) (N o15 (N o27 (N o46 (N o84 (l (b7 P)) (l o244)) (k o127 (l o206))) (N o65 (N (b7 P) (l (o186 P)) (l (b7 P))) (k (b7 P) (l o225)))) (N (o37 P) (N o56 (N o20 (l o175) (l o253)) (k o137 (l o216))) (N o74 (k (b7 P) (l o197)) (k o157 (l o234))))) (N (b7 P) (N o32 (N (o51 P) (N (b7 P) (l (b8 P)) (l (b7 P))) (k o132 (l o211))) (N (b7 P) (N o112 (l o192) (l (b8 P))) (k o152 (l o230)))) (N o42 (N o60 (N o100 (l o180) (l o258)) (k o142 (l o220))) (N o79 (k (b8 P) (l (b8 P))) (k o162 (l o239)))))) (N o11 (N o18 (N (o30 P) (N o49 (N (b7 P) (l o168) (l (b7 P))) (k o20 (l o209))) (N o68 (N o108 (l o190) (l o264)) (k (b7 P) (l o227)))) (N o39 (N (o58 P) (N o98 (l (b8 P)) (l o255)) (k (b7 P) (l o218))) (N o20 (k o118 (l o199)) (k o159 (l o237))))) (N (b7 P) (N o35 (N o53 (N o92 (l o173) (l o251)) (k o134 (l o213))) (N (b7 P) (k (b7 P) (l (b8 P))) (k (b8 P) (l o232)))) (N (o44 P) (N o63 (N o103 (l o182) (l (b7 P))) (k o146 (l (b8 P)))) (N o81 (k o123 (l o204)) (k (b7 P) (l o241)))))))) (N (b2 P) (N (b4 P) (N (b8 P) (N (b8 P) (N o26 (N o45 (N o83 (l o166) (l o243)) (k (o126 P) (l (b8 P)))) (N (b8 P) (N o104 (l o185) (l o262)) (k o147 (l o224)))) (N o20 (N o55 (N o95 (l (b8 P)) (l o252)) (k o136 (l o215))) (N (b7 P) (k o116 (l o196)) (k o156 (l (b8 P)))))) (N (o21 P) (N o31 (N o20 (N o88 (l (b7 P)) (l o248)) (k o131 (l o210))) (N o69 (N o111 (l (b8 P)) (l (b7 P))) (k (b7 P) (l o229)))) (N o41 (N o59 (N (b8 P) (l o179) (l o257)) (k o141 (l (b8 P)))) (N o78 (k (b7 P) (l (b7 P))) (k o161 (l o238)))))) (N o14 (N o17 (N o20 (N o48 (N o85 (l (b7 P)) (l o245)) (k o95 (l o208))) (N o67 (N o107 (l o189) (l (b7 P))) (k o150 (l (b8 P))))) (N o38 (N o20 (N o97 (l (b7 P)) (l (b8 P))) (k o138 (l o217))) (N (b7 P) (k (b7 P) (l (b8 P))) (k (b8 P) (l o236))))) (N o23 (N o34 (N o52 (N o91 (l o172) (l o250)) (k (b8 P) (l (b8 P)))) (N o72 (N (o113 P) (l (b7 P)) (l o269)) (k (b7 P) (l o231)))) (N o20 (N o62 (N o102 (l (b8 P)) (l o259)) (k o145 (l (b7 P)))) (N (b8 P) (k o122 (l o203)) (k (o163 P) (l (b8 P)))))))) (N (b6 P) (N (b10 P) (N (b7 P) (N o28 (N (b7 P) (N (b7 P) (l (b8 P)) (l (b7 P))) (k o128 (l (b7 P)))) (N (b7 P) (N o105 (l o187) (l (b8 P))) (k o148 (l o226)))) (N (b7 P) (N o57 (N (o96 P) (l o176) (l o254)) (k (b7 P) (l (b7 P)))) (N o75 (k (b8 P) (l o198)) (k o158 (l (b7 P)))))) (N (b8 P) (N (b7 P) (N (b7 P) (N (o89 P) (l o171) (l (b8 P))) (k o133 (l o212))) (N o70 (N o95 (l o193) (l o267)) (k o153 (l (b7 P))))) (N o43 (N (b7 P) (N (b7 P) (l o181) (l (b7 P))) (k (o143 P) (l o221))) (N o80 (k o121 (l o202)) (k (b7 P) (l o240)))))) (N o12 (N o19 (N (b7 P) (N o50 (N o86 (l o169) (l o246)) (k (o130 P) (l (b7 P)))) (N (b7 P) (N (o109 P) (l o191) (l o265)) (k (b8 P) (l (b7 P))))) (N (b7 P) (N (b7 P) (N o99 (l o178) (l (b7 P))) (k o139 (l o219))) (N (o77 P) (k o119 (l o200)) (k (b7 P) (l (b7 P)))))) (N (o24 P) (N o36 (N (b7 P) (N o93 (l o174) (l (b7 P))) (k (b7 P) (l (b7 P)))) (N (b8 P) (k o114 (l o195)) (k o155 (l o233)))) (N (b7 P) (N o64 (N (b7 P) (l o183) (l o260)) (k (b7 P) (l o223))) (N (b7 P) (k o124 (l o205)) (k o164 (l (b7 P))))))))))
def sC0 (w : World) (os : OsState) : SharedT := ⟨tC0 w.params, 429, lifeF, Array.mk [], drawnF, 736, os⟩
def hF (P : Params) : Heap := ⟨Array.mk (b0 P :: b1 P :: b2 P :: o13 P :: b4 P :: b5 P :: b6 P :: b7 P :: b8 P :: b9 P :: b10 P :: b7 P :: o14 :: o11 :: o12 :: b7 P :: b8 P :: o15 :: b7 P :: o16 :: o17 :: o18 :: o19 :: o20 :: o21 P :: b7 P :: b8 P :: o22 :: o23 :: b7 P :: o24 P :: o25 :: o26 :: o27 :: o28 :: o29 :: o20 :: o30 P :: b7 P :: b8 P :: o31 :: o32 :: b7 P :: o33 P :: o34 :: o35 :: o36 :: o29 :: o20 :: o37 P :: b7 P :: b8 P :: o38 :: o39 :: b7 P :: o40 P :: o41 :: o42 :: o43 :: o29 :: o20 :: o44 P :: b7 P :: b8 P :: o45 :: o46 :: b7 P :: o47 P :: o48 :: o49 :: o50 :: o29 :: o20 :: o51 P :: b7 P :: b8 P :: o52 :: o53 :: b7 P :: o54 P :: o55 :: o56 :: o57 :: o29 :: o20 :: o58 P :: b7 P :: b8 P :: o59 :: o60 :: b7 P :: o61 P :: o62 :: o63 :: o64 :: b7 P :: b8 P :: o65 :: b7 P :: o66 :: o67 :: o68 :: b7 P :: b8 P :: o69 :: b7 P :: o70 :: o71 :: o72 :: b7 P :: b8 P :: o73 :: b7 P :: o74 :: o75 :: o76 :: b7 P :: o20 :: o77 P :: b7 P :: o78 :: o79 :: o80 :: b7 P :: b8 P :: o81 :: b7 P :: o82 :: o83 :: o84 :: b7 P :: b8 P :: o85 :: b7 P :: o86 :: o87 :: o88 :: b7 P :: o89 P :: o90 :: o91 :: o92 :: o93 :: o94 :: o95 :: o20 :: o96 P :: b7 P :: o97 :: o98 :: o99 :: b7 P :: b8 P :: o100 :: b7 P :: o101 :: o102 :: o103 :: b7 P :: b8 P :: o104 :: b7 P :: o105 :: o106 :: o107 :: o108 :: o109 P :: o110 :: o111 :: o112 :: o95 :: o20 :: o113 P :: b7 P :: o114 :: o115 :: o116 :: b7 P :: b8 P :: o117 :: b7 P :: o118 :: o119 :: o120 :: b7 P :: b8 P :: o121 :: b7 P :: o122 :: o123 :: o124 :: o125 :: o126 P :: o127 :: o128 :: o129 :: o95 :: o20 :: o130 P :: b7 P :: o131 :: o132 :: o133 :: b7 P :: b8 P :: o134 :: b7 P :: o135 :: o136 :: o137 :: b7 P :: b8 P :: o138 :: b7 P :: o139 :: o140 :: o141 :: o142 :: o143 P :: o144 :: o145 :: o146 :: b7 P :: b8 P :: o147 :: b7 P :: o148 :: o149 :: o150 :: b7 P :: b8 P :: o151 :: b7 P :: o152 :: o153 :: o154 :: b7 P :: b8 P :: o155 :: b7 P :: o156 :: o157 :: o158 :: b7 P :: b8 P :: o159 :: b7 P :: o160 :: o161 :: o162 :: b7 P :: o20 :: o163 P :: b7 P :: o164 :: o165 :: o166 :: b7 P :: b8 P :: o167 :: b7 P :: o168 :: o169 :: o170 :: b7 P :: b8 P :: o171 :: b7 P :: o172 :: o173 :: o174 :: b7 P :: b8 P :: o175 :: o176 :: o177 :: b7 P :: b8 P :: o178 :: b7 P :: o179 :: o180 :: o181 :: b7 P :: b8 P :: o182 :: o183 :: o184 :: o185 :: o186 P :: o187 :: o188 :: o189 :: o190 :: o191 :: b7 P :: b8 P :: o192 :: o193 :: o194 :: b7 P :: b8 P :: o195 :: b7 P :: o196 :: o197 :: o198 :: b7 P :: b8 P :: o199 :: o200 :: o201 :: b7 P :: b8 P :: o202 :: b7 P :: o203 :: o204 :: o205 :: b7 P :: b8 P :: o206 :: b7 P :: o207 :: o208 :: o209 :: b7 P :: b8 P :: o210 :: o211 :: o212 :: b7 P :: b8 P :: o213 :: b7 P :: o214 :: o215 :: o216 :: b7 P :: b8 P :: o217 :: o218 :: o219 :: b7 P :: b8 P :: o220 :: o221 :: o222 :: b7 P :: b8 P :: o223 :: b7 P :: o224 :: o225 :: o226 :: b7 P :: b8 P :: o227 :: b7 P :: o228 :: o229 :: o230 :: b7 P :: b8 P :: o231 :: o232 :: o233 :: b7 P :: b8 P :: o234 :: b7 P :: o235 :: o236 :: o237 :: b7 P :: b8 P :: o238 :: o239 :: o240 :: b7 P :: b8 P :: o241 :: b7 P :: o242 :: o243 :: o244 :: b7 P :: b8 P :: o245 :: b7 P :: o246 :: o247 :: o248 :: b7 P :: b8 P :: o249 :: o250 :: o251 :: b7 P :: b8 P :: o252 :: o253 :: o254 :: b7 P :: b8 P :: o255 :: b7 P :: o256 :: o257 :: o258 :: b7 P :: b8 P :: o259 :: b7 P :: o260 :: o261 :: o262 :: b7 P :: b8 P :: o263 :: b7 P :: o264 :: o265 :: o266 :: b7 P :: b8 P :: o267 :: o268 :: o269 :: []), lifeF⟩
def sF (w : World) (os : OsState) : Shared := ⟨hF w.params, Array.mk [], drawnF, 736, os⟩
def KK (P : Params) : Frag := (nat_lit 2, b2 P) :: (nat_lit 3, o13 P) :: (nat_lit 15, b7 P) :: (nat_lit 17, o15) :: (nat_lit 18, b7 P) :: (nat_lit 20, o17) :: (nat_lit 21, o18) :: (nat_lit 22, o19) :: (nat_lit 29, b7 P) :: (nat_lit 30, o24 P) :: (nat_lit 31, o25) :: (nat_lit 32, o26) :: (nat_lit 35, o29) :: (nat_lit 42, b7 P) :: (nat_lit 43, o33 P) :: (nat_lit 44, o34) :: (nat_lit 47, o29) :: (nat_lit 54, b7 P) :: (nat_lit 55, o40 P) :: (nat_lit 56, o41) :: (nat_lit 59, o29) :: (nat_lit 66, b7 P) :: (nat_lit 67, o47 P) :: (nat_lit 68, o48) :: (nat_lit 71, o29) :: (nat_lit 78, b7 P) :: (nat_lit 79, o54 P) :: (nat_lit 80, o55) :: (nat_lit 83, o29) :: (nat_lit 90, b7 P) :: (nat_lit 91, o61 P) :: (nat_lit 92, o62) :: (nat_lit 95, b7 P) :: (nat_lit 97, o65) :: (nat_lit 98, b7 P) :: (nat_lit 100, o67) :: (nat_lit 101, o68) :: (nat_lit 102, b7 P) :: (nat_lit 104, o69) :: (nat_lit 105, b7 P) :: (nat_lit 107, o71) :: (nat_lit 108, o72) :: (nat_lit 109, b7 P) :: (nat_lit 111, o73) :: (nat_lit 112, b7 P) :: (nat_lit 114, o75) :: (nat_lit 115, o76) :: (nat_lit 123, b7 P) :: (nat_lit 125, o81) :: (nat_lit 126, b7 P) :: (nat_lit 128, o83) :: (nat_lit 129, o84) :: (nat_lit 130, b7 P) :: (nat_lit 132, o85) :: (nat_lit 133, b7 P) :: (nat_lit 135, o87) :: (nat_lit 136, o88) :: (nat_lit 137, b7 P) :: (nat_lit 138, o89 P) :: (nat_lit 139, o90) :: (nat_lit 140, o91) :: (nat_lit 141, o92) :: (nat_lit 144, o95) :: (nat_lit 151, b7 P) :: (nat_lit 153, o100) :: (nat_lit 154, b7 P) :: (nat_lit 156, o102) :: (nat_lit 157, o103) :: (nat_lit 158, b7 P) :: (nat_lit 160, o104) :: (nat_lit 161, b7 P) :: (nat_lit 163, o106) :: (nat_lit 164, o107) :: (nat_lit 165, o108) :: (nat_lit 166, o109 P) :: (nat_lit 167, o110) :: (nat_lit 170, o95) :: (nat_lit 177, b7 P) :: (nat_lit 179, o117) :: (nat_lit 180, b7 P) :: (nat_lit 182, o119) :: (nat_lit 183, o120) :: (nat_lit 184, b7 P) :: (nat_lit 186, o121) :: (nat_lit 187, b7 P) :: (nat_lit 189, o123) :: (nat_lit 190, o124) :: (nat_lit 191, o125) :: (nat_lit 192, o126 P) :: (nat_lit 193, o127) :: (nat_lit 196, o95) :: (nat_lit 203, b7 P) :: (nat_lit 205, o134) :: (nat_lit 206, b7 P) :: (nat_lit 208, o136) :: (nat_lit 209, o137) :: (nat_lit 210, b7 P) :: (nat_lit 212, o138) :: (nat_lit 213, b7 P) :: (nat_lit 215, o140) :: (nat_lit 216, o141) :: (nat_lit 217, o142) :: (nat_lit 218, o143 P) :: (nat_lit 219, o144) :: (nat_lit 222, b7 P) :: (nat_lit 224, o147) :: (nat_lit 225, b7 P) :: (nat_lit 227, o149) :: (nat_lit 228, o150) :: (nat_lit 229, b7 P) :: (nat_lit 231, o151) :: (nat_lit 232, b7 P) :: (nat_lit 234, o153) :: (nat_lit 235, o154) :: (nat_lit 236, b7 P) :: (nat_lit 238, o155) :: (nat_lit 239, b7 P) :: (nat_lit 241, o157) :: (nat_lit 242, o158) :: (nat_lit 243, b7 P) :: (nat_lit 245, o159) :: (nat_lit 246, b7 P) :: (nat_lit 248, o161) :: (nat_lit 249, o162) :: (nat_lit 257, b7 P) :: (nat_lit 259, o167) :: (nat_lit 260, b7 P) :: (nat_lit 262, o169) :: (nat_lit 263, o170) :: (nat_lit 264, b7 P) :: (nat_lit 266, o171) :: (nat_lit 267, b7 P) :: (nat_lit 269, o173) :: (nat_lit 270, o174) :: (nat_lit 271, b7 P) :: (nat_lit 274, o176) :: (nat_lit 275, o177) :: (nat_lit 276, b7 P) :: (nat_lit 278, o178) :: (nat_lit 279, b7 P) :: (nat_lit 281, o180) :: (nat_lit 282, o181) :: (nat_lit 283, b7 P) :: (nat_lit 286, o183) :: (nat_lit 287, o184) :: (nat_lit 288, o185) :: (nat_lit 289, o186 P) :: (nat_lit 290, o187) :: (nat_lit 291, o188) :: (nat_lit 292, o189) :: (nat_lit 295, b7 P) :: (nat_lit 298, o193) :: (nat_lit 299, o194) :: (nat_lit 300, b7 P) :: (nat_lit 302, o195) :: (nat_lit 303, b7 P) :: (nat_lit 305, o197) :: (nat_lit 306, o198) :: (nat_lit 307, b7 P) :: (nat_lit 310, o200) :: (nat_lit 311, o201) :: (nat_lit 312, b7 P) :: (nat_lit 314, o202) :: (nat_lit 315, b7 P) :: (nat_lit 317, o204) :: (nat_lit 318, o205) :: (nat_lit 319, b7 P) :: (nat_lit 321, o206) :: (nat_lit 322, b7 P) :: (nat_lit 324, o208) :: (nat_lit 325, o209) :: (nat_lit 326, b7 P) :: (nat_lit 329, o211) :: (nat_lit 330, o212) :: (nat_lit 331, b7 P) :: (nat_lit 333, o213) :: (nat_lit 334, b7 P) :: (nat_lit 336, o215) :: (nat_lit 337, o216) :: (nat_lit 338, b7 P) :: (nat_lit 341, o218) :: (nat_lit 342, o219) :: (nat_lit 343, b7 P) :: (nat_lit 346, o221) :: (nat_lit 347, o222) :: (nat_lit 348, b7 P) :: (nat_lit 350, o223) :: (nat_lit 351, b7 P) :: (nat_lit 353, o225) :: (nat_lit 354, o226) :: (nat_lit 355, b7 P) :: (nat_lit 357, o227) :: (nat_lit 358, b7 P) :: (nat_lit 360, o229) :: (nat_lit 361, o230) :: (nat_lit 362, b7 P) :: (nat_lit 365, o232) :: (nat_lit 366, o233) :: (nat_lit 374, b7 P) :: (nat_lit 377, o239) :: (nat_lit 378, o240) :: (nat_lit 379, b7 P) :: (nat_lit 381, o241) :: (nat_lit 382, b7 P) :: (nat_lit 384, o243) :: (nat_lit 385, o244) :: (nat_lit 386, b7 P) :: (nat_lit 388, o245) :: (nat_lit 389, b7 P) :: (nat_lit 391, o247) :: (nat_lit 392, o248) :: (nat_lit 393, b7 P) :: (nat_lit 396, o250) :: (nat_lit 397, o251) :: (nat_lit 398, b7 P) :: (nat_lit 401, o253) :: (nat_lit 402, o254) :: (nat_lit 403, b7 P) :: (nat_lit 405, o255) :: (nat_lit 406, b7 P) :: (nat_lit 408, o257) :: (nat_lit 409, o258) :: (nat_lit 410, b7 P) :: (nat_lit 412, o259) :: (nat_lit 413, b7 P) :: (nat_lit 415, o261) :: (nat_lit 416, o262) :: (nat_lit 417, b7 P) :: (nat_lit 419, o263) :: (nat_lit 420, b7 P) :: (nat_lit 422, o265) :: (nat_lit 423, o266) :: (nat_lit 424, b7 P) :: (nat_lit 427, o268) :: (nat_lit 428, o269) :: []
def keysK : List Addr := 2 :: 3 :: 15 :: 17 :: 18 :: 20 :: 21 :: 22 :: 29 :: 30 :: 31 :: 32 :: 35 :: 42 :: 43 :: 44 :: 47 :: 54 :: 55 :: 56 :: 59 :: 66 :: 67 :: 68 :: 71 :: 78 :: 79 :: 80 :: 83 :: 90 :: 91 :: 92 :: 95 :: 97 :: 98 :: 100 :: 101 :: 102 :: 104 :: 105 :: 107 :: 108 :: 109 :: 111 :: 112 :: 114 :: 115 :: 123 :: 125 :: 126 :: 128 :: 129 :: 130 :: 132 :: 133 :: 135 :: 136 :: 137 :: 138 :: 139 :: 140 :: 141 :: 144 :: 151 :: 153 :: 154 :: 156 :: 157 :: 158 :: 160 :: 161 :: 163 :: 164 :: 165 :: 166 :: 167 :: 170 :: 177 :: 179 :: 180 :: 182 :: 183 :: 184 :: 186 :: 187 :: 189 :: 190 :: 191 :: 192 :: 193 :: 196 :: 203 :: 205 :: 206 :: 208 :: 209 :: 210 :: 212 :: 213 :: 215 :: 216 :: 217 :: 218 :: 219 :: 222 :: 224 :: 225 :: 227 :: 228 :: 229 :: 231 :: 232 :: 234 :: 235 :: 236 :: 238 :: 239 :: 241 :: 242 :: 243 :: 245 :: 246 :: 248 :: 249 :: 257 :: 259 :: 260 :: 262 :: 263 :: 264 :: 266 :: 267 :: 269 :: 270 :: 271 :: 274 :: 275 :: 276 :: 278 :: 279 :: 281 :: 282 :: 283 :: 286 :: 287 :: 288 :: 289 :: 290 :: 291 :: 292 :: 295 :: 298 :: 299 :: 300 :: 302 :: 303 :: 305 :: 306 :: 307 :: 310 :: 311 :: 312 :: 314 :: 315 :: 317 :: 318 :: 319 :: 321 :: 322 :: 324 :: 325 :: 326 :: 329 :: 330 :: 331 :: 333 :: 334 :: 336 :: 337 :: 338 :: 341 :: 342 :: 343 :: 346 :: 347 :: 348 :: 350 :: 351 :: 353 :: 354 :: 355 :: 357 :: 358 :: 360 :: 361 :: 362 :: 365 :: 366 :: 374 :: 377 :: 378 :: 379 :: 381 :: 382 :: 384 :: 385 :: 386 :: 388 :: 389 :: 391 :: 392 :: 393 :: 396 :: 397 :: 398 :: 401 :: 402 :: 403 :: 405 :: 406 :: 408 :: 409 :: 410 :: 412 :: 413 :: 415 :: 416 :: 417 :: 419 :: 420 :: 422 :: 423 :: 424 :: 427 :: 428 :: []
def loose : List Str := "_wall" :: "JugError" :: "BadHouse" :: "BadState" :: "BadMove" :: "BadGoal" :: "BadText" :: "MOST_JUGS" :: "MOST_SIZE" :: "is_number" :: "is_jug" :: "check_jug" :: "Move" :: "Pour" :: "Fill" :: "Empty" :: "moves_in" :: "MOST_STATES" :: "sizes_in" :: "count_states" :: "pours_among" :: "House" :: "FIGURES" :: "MOST_FIGURES" :: "house_text" :: "move_text" :: "routine_text" :: "check_text" :: "number_of" :: "house_of" :: "move_in_words" :: "move_of" :: "routine_of" :: "_law_cell_at" :: "_law_draw" :: "_law_sizes" :: "_law_state" :: "_law_all_moves" :: "_law_move_text" :: "_law_number" :: "_law_house_in" :: "_law_writes" :: "_law_refused" :: "_law_right" :: "_law_few" :: []
def env : Env := { scope := pg.main.scope, locals := mainNs, globals := mainNs, cells := [], code := (r 13), frame := some 14 }
abbrev cE : Code := .body (behindTheImports pg) env
abbrev pos0 : Pos := (.mk 0 0 0 0)
abbrev posB : Pos := (.mk 0 0 0 0)
abbrev posQ : Pos := (.mk 0 0 0 0)
abbrev ann : Option Value := (some (r 6))

abbrev s0 (w : World) (os : OsState) : Shared := ⟨boot_heap w.params, Array.mk [], boot_drawn, boot_toks, os⟩
theorem pre_ (w : World) (os : OsState) : topGo treeTable pg w 11 ann 12 (s0 w os) (topStub pg) = some (sA w os, ⟨denote treeTable cE, cE, pos0, [topFrame posQ]⟩) := by
  rewrite [Fast.te15667345088766844465, Fast.te14364793385576792824, Fast.te11892475500146522536]
  kernel_rfl
theorem block_ (w : World) (os : OsState) : segRun treeTable pg w 11 ann 1 1 (sA w os) (blockOf (behindTheImports pg) env cE pos0 [topFrame posQ]) = some (.next, (sB w os).abs, cE, posB) := by
  rewrite [Fast.te14374325043358763698, Fast.te14364793385576792824]
  kernel_rfl
abbrev pos_0 : Pos := (.mk 270 0 295 123)
theorem run_0 (w : World) (os : OsState) : segRunT treeTable pg w 11 ann 1 3654 (sB w os) (piecesOf (behindTheImports pg) env cE posB [topFrame posQ]) = some (.next, sC0 w os, cE, pos_0) := by
  rewrite [Fast.te10110043849684766642, Fast.te14364793385576792824]
  kernel_rfl
theorem fin_ (w : World) (os : OsState) : topRun treeTable pg w 11 ann 2 (sC0 w os).abs ⟨doneF .next, cE, pos_0, [topFrame posQ]⟩ = some (sF w os) := by
  rewrite [Fast.te14082659384304107361, Fast.te14364793385576792824]
  kernel_rfl
theorem top_ (w : World) (os : OsState) : topRun treeTable pg w 11 ann (12 + (1 + (3654 + 2))) (s0 w os) (topStub pg) = some (sF w os) := by
  refine go_top (pre_ w os) (piece_block (block_ w os) ?_)
  have h := piece_app (segRun_of (run_0 w os)) (piece_nil (fin_ w os))
  rwa [List.append_nil] at h
def qq : Program := { pg with main := { pg.main with body := [st 51] } }
theorem keys_ (P : Params) : keysK = (KK P).map (·.1) := by kernel_rfl
theorem open_ : ∀ w : World, (fencedOpening treeTable pg w 7432).map (fun s => (s.heap, s.gens, s.drawn, s.toks)) = some (boot_heap w.params, Array.mk [], boot_drawn, boot_toks) :=
  boot_open (by kernel_rfl) (by decide) (fun s => by kernel_rfl)
theorem size_ (w : World) : ((boot_heap w.params).isNs mainGlobals && (Array.mk [] : Array GenState).size == 0, (boot_heap w.params).objs.size, (boot_heap w.params).nsMap mainGlobals "__annotations__") = (true, 11, ann) := by kernel_rfl
abbrev rr : RowW := OpenRow.toRowW (OpenLaw.row PySem.Challenge.rw_jughouse_k07_written)
def Xt (s : Shared) : Bool := xlAt qq [] s && recOk (RowW.records rr) s
theorem look1 (w : World) (os : OsState) : (staticsOk (importedModules pg.main.body) (boot_heap w.params) (hF w.params) && namesBound pg (hF w.params) && gensDone (sF w os) && laidKept (boot_heap w.params) (hF w.params)) = true := by kernel_rfl
theorem look2 (w : World) (os : OsState) : openSeen qq loose (importedModules pg.main.body) Xt true (sF w os) = openGood qq loose := by
  rewrite [Fast.te4187177175401517315]
  kernel_rfl
theorem look3 (w : World) (os : OsState) : Hook.obs (kHook KK keysK keys_) (sF w os) = Hook.val (kHook KK keysK keys_) w := by kernel_rfl
theorem left_ : LeftO pg qq loose Xt (Hook.obs (kHook KK keysK keys_)) (Hook.val (kHook KK keysK keys_)) 7432 :=
  LeftO.of_pieces open_ size_ top_ (by decide) (fun w => funext fun os => looks_pair (look1 w os) (looks_pair (look2 w os) (look3 w os)))
end Hd
end
open PySem PySem.W PyProof.Rows
set_option maxRecDepth 100000 in
set_option maxHeartbeats 0 in
theorem PySem.Challenge.cw_jughouse_k07_written_holds : PySem.Challenge.rw_jughouse_k07_written.Holds := by
  w_on; o_law
  refine holds_open (N := 7432)
    (q := Hd.qq) (loose := Hd.loose) (Xt := Hd.Xt)
    (XP := XL Hd.qq []) (YP := Hook.says (kHook Hd.KK Hd.keysK Hd.keys_))
    Hd.left_ (Hook.of (kHook Hd.KK Hd.keysK Hd.keys_)) (Hook.keeps (kHook Hd.KK Hd.keysK Hd.keys_))
    (fun s e => xl_of s (Bool.and_eq_true_iff.mp e).1)
    XL.keeps (by rfl) (by rfl) (by rfl)
    (fun s e => recFacts_of (Bool.and_eq_true_iff.mp e).2)
    (by rfl) (by assumption) (by decide +kernel)
    ⟨rfl, rfl, rfl, rfl, rfl, by decide +kernel⟩ ?hw ?hc
  (case hw => w_witness2)
  k_fill
  refine Jug.walk (l := PySem.Challenge.rw_jughouse_k07_written) rfl rfl (fun w h Y => PySem.W.kIn_of Y) ?F
  case F =>
    intro w mg fa h KX G hmg
    refine' Jug.all_mk KX G hmg ?_ ?_ ?_ ?_ ?_ ?_ ?_ ?_ ?_ ?_ ?_ ?_ ?_ ?_ ?_ ?_ ?_ ?_ ?_ ?_ ?_ ?_ ?_ ?_ ?_ ?_ ?_ ?_ ?_ ?_ ?_ ?_ ?_ ?_ ?_ ?_ ?_ ?_ ?_ ?_ ?_ ?_ ?_ ?_ ?_ ?_ ?_ ?_ ?_ ?_ ?_ ?_ ?_ ?_ ?_ ?_ ?_ ?_ ?_ ?_ ?_ ?_ ?_ ?_ ?_ ?_ ?_ ?_ ?_ ?_ ?_ ?_ ?_ ?_ ?_ ?_ ?_ ?_ ?_ ?_ ?_ ?_ ?_ ?_ ?_ ?_ ?_ ?_ ?_ ?_ ?_ ?_ ?_ ?_ ?_ ?_ ?_ ?_ ?_ ?_ ?_ ?_ ?_ ?_ ?_ ?_ ?_ ?_ ?_ ?_ ?_ ?_ ?_ ?_ ?_ ?_ ?_ ?_ ?_ ?_ ?_ ?_ ?_ ?_ ?_ ?_ ?_ ?_ ?_ ?_ ?_ ?_ ?_ ?_ ?_ ?_ ?_ ?_ ?_ ?_ ?_ ?_ ?_ ?_ ?_ ?_ ?_ ?_ ?_ ?_ ?_ ?_ ?_ ?_ ?_ ?_ ?_ ?_ ?_ ?_ ?_ ?_ ?_ ?_ ?_ ?_ ?_ ?_ ?_ ?_ ?_ ?_ ?_ ?_ ?_ ?_ ?_ ?_ ?_ ?_ ?_ ?_ ?_ ?_ ?_ ?_ ?_ ?_ ?_ ?_ ?_ ?_ ?_ ?_ ?_ ?_ ?_ ?_ ?_ ?_ ?_ ?_ ?_ ?_ ?_ ?_ ?_ ?_ ?_ ?_ ?_ ?_ ?_ ?_ ?_ ?_ ?_ ?_ ?_ ?_ ?_ ?_ ?_ ?_ ?_ ?_ ?_ ?_ ?_ ?_
    all_goals (try first | k_is | kit_is | kernel_rfl)

